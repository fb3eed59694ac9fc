import PyProof.Rows.All
import Wide.All
import OpenK.AllK
import Wide.FinOn
import Lean
import PyProof.EqAt
import PyProof.EqKinds
import PyProof.TupleCall
import PyProof.AttrMissHeap
import KE.KDictOf
import PySem.Challenge.RW_firnfall_k26_years_out_of_sight
set_option Elab.async false
set_option linter.all false
set_option maxRecDepth 100000
set_option maxHeartbeats 0
open And renaming intro->fE
open Array renaming length_toList->cF,getElem?_setIfInBounds_ne->fZ,getD_eq_getD_getElem?->iH,getElem?_eq_getElem->iX,getElem?_toList->mv,getD->nQ,forIn_toList->nU,toList_map->pe,mk->pY
open Bool renaming false_ne_true->au,and_eq_true->bf,false_eq_true->cJ,eq_iff_iff->dv,true_and->eJ
open False renaming elim->bC
open ForIn renaming forIn->sR
open ForInStep renaming yield->bW
open Int renaming toNat_natCast->bE,emod_lt_of_pos->di,zero_add->eA,emod_nonneg->eG,le_refl->mU,le_trans->oR,le_of_lt->oS
open List renaming getElem?_eq_getElem->aa,length_map->af,length_append->ak,getD_eq_getElem?_getD->ao,size_toArray->ar,getElem?_map->av,mem_of_getElem?->ax,map_append->aB,mem_cons_of_mem->aE,range->aG,mem_append_right->aH,mem_cons_self->aI,length_take->aJ,append_nil->aM,map_cons->aN,take_length->aW,length_cons->bb,length_singleton->bg,Nodup->bo,length_range->br,take_add_one->bF,mem_map_of_mem->bH,all_eq_true->bI,take_of_length_le->bJ,filter_append->bK,length_filter_le->bN,drop_eq_getElem_cons->bQ,map_map->bS,getElem_mem->bY,getElem?_append_right->c5,range_succ->ck,lookup_cons->cp,reverse->cB,append_assoc->cD,drop_eq_nil_of_le->cE,getElem?_append_left->cI,getElem_map->cK,length_drop->d6,replicate->df,mem_of_find?_eq_some->dm,mem_of_mem_take->dA,map_congr_left->dH,getElem?_range->dI,filter_cons_of_neg->dN,filter_cons_of_pos->dO,lookup->dS,eq_nil_of_length_eq_zero->dU,find?_cons->eF,mem_cons->eK,length_replicate->eL,reverse_reverse->eR,nodup_nil->eS,map_nil->fb,not_mem_nil->fc,any_cons->fg,pairwise_cons->ft,pairwise_singleton->fC,filter->fD,all_map->fP,length_pos_of_mem->fQ,ext_getElem?->fS,getElem?_set->fV,find?_cons_of_pos->fW,find?_cons_of_neg->fX,mem_append_left->ie,of_mem_zip->iq,length_set->ir,forIn_cons->iu,dropLast_concat_getLast->iC,filterMap_cons->iD,length_reverse->iG,getElem?_eq_none_iff->iY,length->lh,reverse_cons->lj,getElem_take->lp,flatten_cons->lr,headD_eq_head?_getD->lE,getElem?_replicate->lM,ext_getElem->lN,nodup_range->lO,getElem?_set_self->lS,drop_of_length_le->m6,head?_eq_getElem?->md,length_nil->ml,filter_nil->mn,range_zero->mq,eq_nil_or_concat->mz,concat_eq_append->mB,getElem?_set_ne->mD,length_dropLast->mJ,map_id->mQ,replicate_succ'->mV,getLastD_concat->mW,getLast?_concat->mX,dropLast_concat->mY,all_cons->nv,sum_cons->nB,getElem?_drop->nO,take_sublist->oz,toArray->oG,map_snd_zip->pf,zipIdx_cons->ph,map_reverse->pA,zipIdx_nil->pR,map->rR,forIn_nil->rV,take_zero->se,drop_zero->sf,take_take->si
open List.Pairwise renaming nil->fM,map->fT
open List.Perm renaming refl->mO,cons_inv->nW
open Nat renaming le_refl->aq,ne_of_lt->aA,zero_le->aC,le_trans->aF,lt_of_lt_of_le->aQ,lt_of_le_of_lt->bR,succ_le_succ->bZ,lt_succ_of_lt->cc,lt_irrefl->cq,ne_of_gt->cW,le_add_right->dP,le_succ_of_le->eO,le_of_lt->eV,le_succ->fB,zero_add->fO,lt_succ_self->i7,le_of_eq->oi,sub_self->oI,sub_zero->oU,min_eq_right->pC,not_lt_zero->pO,min_eq_left->pS
open Ne renaming symm->cj
open Option renaming toList_some->eB,map_some->iB,isSome_map->oN,getD_none->oZ
open Option.some renaming inj->aR
open Or renaming inl->aP,inr->iS
open Prod renaming snd->sS
open PyProof.Rows renaming seqObj->bt,boot_list->bT,callWith_type1->c3,boot_isinstance->c7,listUpdate_at->cM,boot_tuple->cQ,IntsAre->cX,get?_update_seq->eE,seqEpoch_at->eQ,boot_bool->fU,slot_tuple_getitem->fY,AllBare->i9,subscriptTail->ia,envOfC->lu,Subscript_->lW,subscriptTail_builtinR->lX,listItems_at->m7,boot_dict->ma,entry_list_sort->mi,boot_int->mx,boot_str->my,slot_list_sort->mM,size_push'->nR,plain_sorted->oE,entry_sorted->oF,boot_all->oP,boot_max->oQ,kind_sorted->pL,boot_sorted->pM,list_sort_plain->pN,boot_range->rp,SortKind->rM,args_list_sort->rO,failedOf->rQ,boot_min->rZ,tail_any->sQ,boot_sum->sY,Call_->t7
open PyProof.Rows.KeyOrd renaming kle_refl->cU,kle_of_klt->fN,kle_trans->i8,kle_antisymm->iF
open PySem renaming wpAny_bind->ae,Value->ag,wpAny->ay,model->aD,starEach->aO,boot_len->aT,World->b9,wpAny_mono->ba,Around->bj,sizeLine_eq->bA,wpAny_field->bM,wpAny_truthy_bool->bO,wpAny_holding->bP,rawInt->bU,wpAny_loadPart'->bX,wpAny_newObj_type->c9,compareOp->cf,foldedSetIterable->cu,bindArgs->cw,wpAny_seqItems->cC,Paired->cG,backTo->cH,codeAny->cO,wpAny_callSpecial?_slot->cP,letOwnedTupleGo->cS,mem_of_lookup->cV,wpAny_standAt->cY,tupleKind->d5,wpAny_call_entry->d8,sysModules->d9,wpAny_Call_Name_kw->de,wpAny_setField_rec->dh,importedModules->dq,wpAny_passesOwn->dr,wpAny_pyIter_list->dw,codeAny_mono->dz,attributeBase->dB,IsPair->dE,holding->dG,Builtin->dW,tupleKind_room_in1->ef,codeAny_builtin->eC,behindInMarks->eI,keywordEach->eP,standAt->eY,wpAny_comprehension_free->fi,plainId_quiet->fj,wpAny_newList->fk,assignEach->fm,wpAny_rule->fq,sliceBounds->fA,bootBuiltins->fF,pyNext->fG,wpAny_pyNext_list_item->fH,NameKind->fJ,wpAny_setField->fR,wpAny_pyNext_list_end->i0,binaryOp->ig,wpAny_updateSeq_pair->ik,wpAny_execs_nil->il,assign->ip,wpAny_typeOf->iI,swapsWith->iK,noteFrame->iL,backToKw->iO,wpAny_newFunctionEnv_cells->iQ,wpAny_newTuple->iT,IsZip->iV,evalPart_none->lx,wpAny_getItem_list_slice->ly,wpAny_onRaise->lA,wpAny_eqBool_int->lH,wpAny_execs_cons->lI,getMethod->lL,builtinsNs->lR,wpAny_call->lT,Keyword->lU,getItem->lV,call_meets->lY,codeAny_compStart_list->lZ,theTreesLotGoes->mh,wpAny_isTrue_Compare1->mr,wpAny_notOrdered_dict->mw,wpAny_loadName_local->mE,pyIter->mF,Result->mH,subscripted->mI,wpAny_newFunctionEnv->mK,wpAny_letGo->mP,ZipApart->mR,leaving->n5,callerA->n6,valueAt->n9,wpAny_loadName_cell->ni,evalPart_some->nu,wpAny_attempt->nA,wpAny_pyIter_tuple->nJ,wpAny_pyIter_range->nK,PlainAttrs->nM,closureFor->nN,getattributeRaised->nX,Within->o9,wpAny_assign_Name->oa,callWith->oj,seqIndex_neg->oA,codeAny_loop->oB,compTurn->oC,wpAny_pyIter_enum->oH,atKey->oM,cellsFrom->oY,typeOf->p0,wpAny_pyIter_zip->pq,wpAny_Dict_empty->pw,kt_code_dict_new->pz,IsRangeIter->pG,wpAny_Slice->pI,seqIndex_of->pJ,wpAny_noted->pK,OsState->pT,BindsTo->pU,newList->pV,Params->pX,wpAny_Name->rm,CmpOp->rn,bindL->rA,bindC->rC,IsPart->rE,typeLookup->rG,compEnvC->rH,newFunctionEnv->rK,checkCount->rN,field->rS,firstArgMember->rT,wpAny_tryCatch->rX,callType_codes->rY,rangeSize_one->sr,intBits_le_64->su,call_list_seq->sx,eval_ListComp->sy,storeName->sD,cellOf->sH,stored->sI,storedH->sJ,GenState->sN,Operator->sP,compPost->sU,truthy->sZ,Model->t6
open PySem.Around renaming under_plainId->cN,under->oq
open PySem.Builtin.Dict renaming updateFrom->dQ,addKeywords->lB,selfAndRest->lC,pairItems->m9
open PySem.Builtin.List renaming listTooLong->fh
open PySem.Builtin.Range renaming rangeSize->lK
open PySem.Builtin.Slice renaming slicePlaces->dj,sliceAdjust->fe,sliceApplied->iU
open PySem.Builtin.SmallTypes renaming nextOf->bz,ownedTupleIsFree->cg,ownedTupleHandOut->ff
open PySem.Builtin.Tuple renaming tupleExact->dC
open PySem.Calls renaming callWith_builtin->fL,evalArgs_plain->ij,Name_function_global->iM,spliced_cons->iP,call_function_entry->iW,spliced_nil->ow
open PySem.Code renaming isFrame->ou
open PySem.Data renaming cell->lJ,fields->mG
open PySem.EntryCells renaming newEntry->nk
open PySem.Env renaming kindOf->rJ
open PySem.F renaming plainAttrs_list->aX,slot_list_append->aZ,type_list_append->b7,excBase_ValueError->bB,slot_tuple_iterator_next->dg,slot_dict_get->i5,args_tuple_iterator_next_1->iz,slot_zip_next->iA,entry_tuple_iterator_next->iJ,args_dict_get_3->lP,entry_dict_get->m8,slot_list_lt->mL,kt_typeCall_dict_1->mT,args_dict_init_2->nZ,args_zip_next_1->oK,entry_dict_init->oO,entry_zip_next->pj,kt_called_dict->px
open PySem.Fin renaming done->rP
open PySem.Heap renaming get?_push_of_some->ai,lt_size->aw,get?_push_size->az,get?_update_ne->c0,size_push->cv,get?_update_other->cz,get?_push_ne->cA,size_update->dM,SameBut->dY,get?_update_self->eM,MadeExcOf->mS
open PySem.Heap.DictOf renaming new->mm
open PySem.Heap.IsSliceOf renaming new->iR
open PySem.Heap.SameBut renaming update->nj
open PySem.IsRange renaming new->pH
open PySem.NameKind renaming free->bc,cell->ib
open PySem.Obj renaming mapSeq->aY,data_mapFields->ee,isFreed_of_fields->eN,mapFields->ic,cls_mapFields->oJ
open PySem.Paired renaming length->aK,snoc->bL
open PySem.PassesOwn renaming never->aV
open PySem.SeqAt.EqAt renaming int_str->nH,str_int->nI
open PySem.Str renaming ofString->aj
open PySem.Value renaming ref->aS,none->b8,type->i6,isInt_shape->iZ,int->lF,bool->lQ,str->mZ,isStrOf_shape->nh,float->pE,isStrOf->sj
open PySem.W renaming Frag->ah,nsIn->aU,mg_none_of->bp,mg_of->bw,kitOne->bx,fnOf->bD,findIn->bG,keepIn->bV,kia_one->c6,emptyDict->c8,codeIn->cx,instObj->cR,excIn->cZ,boot_heap->dJ,callWith_K->dZ,plainGet->eZ,hasDictIn->fI,cellsFrom_some->fK,methodCall_KW->i4,plainGet_of->iE,lookIn->iN,methodObj->l9,plainOver->lg,takerIn->me,makesIn->mf,namesBound->nE,isFn->og,kitx_list->om,kitx_dict->oo,staticsOk->oV,kmHook->oW,handedIn->oX,OpenLaw->pQ,kas_rev->pW,boot_drawn->pZ,tabObj->rf,gensDone->rg,laidKept->rj,funFrames_hide->rW,kas_tail3->sF,topStub->sG,openSeen->sL,openGood->sM,openEnds->sO,kas_sort->sV,kas_item->sW,kat_snds->sX
open PySem.W.Looks renaming of_pure->sA
open PySem.W.OpenLaw renaming row->mC
open StateT renaming run_pure->mj
open Sum renaming inr->bh,inl->dX
open Sum.inl renaming inj->dR
open True renaming intro->cT
open PySem PySem.Spec PyProof.Rows
local macro_rules | `(∅)=>`(by omega)
local macro_rules | `(⋯)=>`(by decide)
section
namespace HO
open PySem PySem.W PyProof.Rows PySem.Calls PySem.Spec
def view:Program:={ PySem.Challenge.pw_firnfall_k26_years_out_of_sight with main:={ PySem.Challenge.pw_firnfall_k26_years_out_of_sight.main with body:=(PySem.Challenge.pw_firnfall_k26_years_out_of_sight.main.body).drop 76 } }
def loose:List Str:=[aj "_wall",aj "FirnError",aj "BadValley",aj "BadRound",aj "BadWeather",aj "BadYear",aj "BadSurge",aj "NoLane",aj "NoPlace",aj "MOST_REACHES",aj "MOST_HEIGHTS",aj "GREATEST_HEIGHT",aj "MOST_LANES",aj "LONGEST_LANE",aj "is_valley",aj "is_reach",aj "leads_on",aj "fits",aj "lanes",aj "way_down",aj "way_of",aj "count_places",aj "heights",aj "HIGHEST_LINE",aj "MOST_HANDS",aj "MOST_ROWS",aj "is_weather",aj "is_round",aj "change",aj "LAST_TOLD",aj "LAST_ASKED",aj "GREATEST_SURGE",aj "check_told",aj "check_asked",aj "check_round",aj "Ice",aj "ride_by",aj "earliest",aj "ridden",aj "span",aj "life",aj "parted",aj "way",aj "hidden",aj "_law_box",aj "_law_mixed",aj "_law_take",aj "_law_whole",aj "_law_alike",aj "_law_far",aj "_law_weather",aj "_law_round",aj "_law_ground_drawn",aj "_law_reaches",aj "_law_roads",aj "_law_ground",aj "_law_year",aj "_law_scene",aj "_law_made",aj "_law_row",aj "_law_wish",aj "_law_ride",aj "_law_marks",aj "_law_year_of",aj "_law_walk",aj "_law_spot",aj "_law_stone_way",aj "_law_hidden"]
section
local macro_rules | `(tactic| o_head $H)=>`(tactic| (have hook:=$H;assumption))
theorem frag (hyp:(mC PySem.Challenge.rw_firnfall_k26_years_out_of_sight).Holds):(mC PySem.Challenge.rw_firnfall_k26_years_out_of_sight).Holds:=by
 k_head
end
def asL:List Addr:=[2,3,15,17,18,20,21,22,29,30,31,32,35,42,43,44,47,54,55,56,59,66,67,68,71,78,79,80,83,90,91,92,95,102,103,104,107,114,115,116,119,122,123,124,127,128,129,131,132,134,135,136,139,140,141,144,145,146,148,149,151,152,153,155,156,158,159,160,163,164,165,168,169,170,172,173,175,176,177,180,181,182,184,185,187,188,189,191,192,194,195,196,198,199,201,202,203,205,206,208,209,217,220,221,222,224,225,227,228,229,231,232,234,235,236,238,239,241,242,243,245,246,248,249,250,252,253,255,256,257,259,260,262,263,264,266,267,269,270,271,273,274,276,277,278,280,281,283,284,285,287,288,290,291,292,294,295,297,298,299,301,302,304,305,306,309,310,311,314,315,316,318,319,321,322,323,325,326,328,329,330,332,333,335,336,337,338,339,340,341,344,347,348,349,351,352,354,355,356,358,359,361,362,363,365,366,368,369,370,372,373,375,376,377,379,380,382,383,384,386,387,389,390,391,393,394,396,397,398,400,401,403,404,405,407,408,410,411,412,414,415,417,418,419,421,422,424,425,426,429,430,431,433,434,436,437,438,440,441,443,444,445,448,449,450,453,454,455,458,459,460,463,464,465,467,468,470,471,472,474,475,477,478,479,482,483,484,486,487,489,490,491,493,494,496,497,498,500,501,503,504,505,508,509,510,513,514,515,517,518,520,521,522,524,525,527,528,529,531,532,534,535,536,539,540,541,543,544,546,547,548,550,551,553,554]
theorem asE (P:pX):asL=(frag.heap_1 P).map (·.1):=by kernel_rfl
noncomputable def top (w:b9) (os:pT):Option Shared:=PySem.W.Fast.tw14082659384304107361 PySem.W.Fast.tw14364793385576792824 PySem.Challenge.pw_firnfall_k26_years_out_of_sight w (dJ w.params).objs.size ((dJ w.params).nsMap mainGlobals "__annotations__") 9000 ⟨dJ w.params,pY [],pZ,boot_toks,os⟩ (sG PySem.Challenge.pw_firnfall_k26_years_out_of_sight)
def xt (s:Shared):Bool:=xlAt view [] s && recOk (RowW.records (OpenRow.toRowW (mC PySem.Challenge.rw_firnfall_k26_years_out_of_sight))) s
theorem ran2 (w:b9) (os:pT):(top w os).map (λs=>(asL.map s.heap.get?,[142].map s.heap.get?))=some ((frag.heap_1 w.params).map λp=>some p.2,[142].map λ_=>some (rf #[])):=by kernel_rfl
theorem ws:OpenLaw.wellSaid PySem.Challenge.rw_firnfall_k26_years_out_of_sight=true:=by kernel_rfl
theorem ran1 (w:b9) (os:pT):(top w os).map (λs=>sL view loose (dq PySem.Challenge.pw_firnfall_k26_years_out_of_sight.main.body) xt true s)=some (sM view loose):=by kernel_rfl
theorem ran0 (w:b9) (os:pT):(top w os).map (λs=>oV (dq PySem.Challenge.pw_firnfall_k26_years_out_of_sight.main.body) (dJ w.params) s.heap && nE PySem.Challenge.pw_firnfall_k26_years_out_of_sight s.heap && rg s && rj (dJ w.params) s.heap)=some true:=by kernel_rfl
theorem WU (w:b9) (os:pT):topRun treeTable PySem.Challenge.pw_firnfall_k26_years_out_of_sight w (dJ w.params).objs.size ((dJ w.params).nsMap mainGlobals "__annotations__") 9000 ⟨dJ w.params,pY [],pZ,boot_toks,os⟩ (sG PySem.Challenge.pw_firnfall_k26_years_out_of_sight)=top w os:=by
 rw [PySem.W.Fast.te14082659384304107361,PySem.W.Fast.te14364793385576792824]
 rfl
theorem Gs (w:b9):((dJ w.params).isNs mainGlobals && (pY []:Array sN).size == 0)=true:=by kernel_rfl
theorem JV {tb:String->Option dW}{p:Program}{w:b9}{N:Nat}{s:Shared}{h:Heap}{gs d k os}(hb:(h.isNs mainGlobals && gs.size == 0)=true) (hr:topRun tb p w h.objs.size (h.nsMap mainGlobals "__annotations__") N ⟨h,gs,d,k,os⟩ (sG p)=some s) (hl:(oV (dq p.main.body) h s.heap && nE p s.heap && rg s && rj h s.heap)=true):topFrom tb p w N ⟨h,gs,d,k,os⟩=some s:=by
 unfold topFrom
 rw [hb]
 show ((topRun tb p w h.objs.size (h.nsMap mainGlobals "__annotations__") N ⟨h,gs,d,k,os⟩ (sG p)).bind _)=_
 rw [hr]
 show (match oV (dq p.main.body) h s.heap && nE p s.heap && rg s && rj h s.heap with | true=>some s | false=>none)=_
 rw [hl]
theorem Y2 {tb:String->Option dW}{p:Program}{w:b9}{N:Nat}{s₀ s:Shared}(a:fencedOpening tb p w N=some s₀) (t:topFrom tb p w N s₀=some s):sO tb p w N=some s:=by
 unfold sO
 rw [a]
 exact t
theorem left:LeftO (mC PySem.Challenge.rw_firnfall_k26_years_out_of_sight).prog view loose xt (Hook.obs (oW frag.heap_1 asL asE [142])) (Hook.val (oW frag.heap_1 asL asE [142])) 9000:=λw=>by
 obtain ⟨⟨h,gs,d,k,os⟩,a,b⟩:=Option.map_eq_some_iff.mp (boot_open (p:=PySem.Challenge.pw_firnfall_k26_years_out_of_sight) (N:=9000) (by kernel_rfl) ⋯ (λs=>by kernel_rfl) w)
 obtain ⟨rfl,rfl,rfl,rfl⟩:h=dJ w.params/\gs=pY []/\d=pZ/\k=boot_toks:=by simpa using b
 have h0:=ran0 w os
 have h1:=ran1 w os
 have h2:=ran2 w os
 cases e:top w os with
 | none=>rw [e] at h1;cases h1
 | some s =>
  rw [e] at h0 h1 h2
  have l1:(oV (dq PySem.Challenge.pw_firnfall_k26_years_out_of_sight.main.body) (dJ w.params) s.heap && nE PySem.Challenge.pw_firnfall_k26_years_out_of_sight s.heap && rg s && rj (dJ w.params) s.heap)=true:=aR h0
  have l2:sL view loose (dq PySem.Challenge.pw_firnfall_k26_years_out_of_sight.main.body) xt true s=sM view loose:=aR h1
  obtain ⟨m1,m2⟩:=Prod.mk.inj (aR h2)
  have m5:asL.map s.heap.get? = (frag.heap_1 w.params).map λp=>some p.2:=m1
  have t:=Y2 a (JV (Gs w) ((WU w os).trans e) l1)
  show (sO treeTable PySem.Challenge.pw_firnfall_k26_years_out_of_sight w 9000).map _=_
  rw [t]
  show some (sL view loose (dq PySem.Challenge.pw_firnfall_k26_years_out_of_sight.main.body) xt true s,(asL.map s.heap.get?,[142].map s.heap.get?))=some (sM view loose,_)
  rw [l2,m5,m2]
  rfl
end HO
end
noncomputable section
namespace L2
noncomputable abbrev Key:=Sum Int Str
noncomputable def gJ:Key->ag->Bool
 | .inl k,v=>Value.isInt k v
 | .inr x,v=>sj x v
noncomputable def keyH (w:b9):Key->Int
 | .inl k=>hashInt k
 | .inr x=>hashStr w x
theorem qz:∀{k:Key}{v:ag},gJ k v=true->(∃i t,k=dX i/\v=lF i t)\/(∃x t,k=bh x/\v=mZ x t)
 | .inl i,v,h=>by
  obtain ⟨t,e⟩:=iZ (k:=i) (v:=v) h
  exact .inl ⟨i,t,rfl,e⟩
 | .inr x,v,h=>by
  obtain ⟨t,e⟩:=nh (x:=x) (v:=v) h
  exact .inr ⟨x,t,rfl,e⟩
theorem Ye (i:Int) (t:Tok):gJ (.inl i) (.int i t)=true:=by simp [gJ,Value.isInt]
theorem Yk (x:Str) (t:Tok):gJ (.inr x) (.str x t)=true:=by simp [gJ,sj]
theorem WQ (a b:Int):decide ((dX a:Key)=dX b)=(a == b):=by
 by_cases e:a=b
 ·subst e;simp
 ·have h:¬(dX a:Key)=dX b:=λq=>e (dR q)
  rw [decide_eq_false h]
  exact (beq_eq_false_iff_ne.mpr e).symm
theorem WZ (a b:Str):decide ((bh a:Key)=bh b)=decide (a=b):=by
 by_cases e:a=b
 ·subst e;simp
 ·have h:¬(bh a:Key)=bh b:=λq=>e (Sum.inr.inj q)
  rw [decide_eq_false h,decide_eq_false e]
theorem Wu (a:Int) (b:Str):decide ((dX a:Key)=bh b)=false:=decide_eq_false (λq=>nomatch q)
theorem Wp (a:Str) (b:Int):decide ((bh a:Key)=dX b)=false:=decide_eq_false (λq=>nomatch q)
noncomputable def jv (prog:Program) (w:b9):PySem.KeyKind prog w Key where
 is:=gJ
 hash:=keyH w
 inj:=λv a b ha hb=>by
  rcases qz ha with ⟨i,t,rfl,rfl⟩ | ⟨x,t,rfl,rfl⟩
  ·rcases qz hb with ⟨j,u,rfl,e⟩ | ⟨y,u,rfl,e⟩
   ·injection e with e1 _;rw [e1]
   ·exact nomatch e
  ·rcases qz hb with ⟨j,u,rfl,e⟩ | ⟨y,u,rfl,e⟩
   ·exact nomatch e
   ·injection e with e1 _;rw [e1]
 byValue:=λk v h=>by
  rcases qz h with ⟨i,t,rfl,rfl⟩ | ⟨x,t,rfl,rfl⟩ <;> rfl
 pyHash:=λhv h=>by
  rcases qz hv with ⟨i,t,rfl,rfl⟩ | ⟨x,t,rfl,rfl⟩
  ·exact wpAny_pyHash_int h
  ·exact wpAny_pyHash_str h
 eqBool:=λhu hv h=>by
  rcases qz hu with ⟨i,t,rfl,rfl⟩ | ⟨x,t,rfl,rfl⟩
  ·rcases qz hv with ⟨j,u,rfl,rfl⟩ | ⟨y,u,rfl,rfl⟩
   ·rw [WQ] at h;exact lH h
   ·rw [Wu] at h;exact nH i t y u _ _ _ _ h
  ·rcases qz hv with ⟨j,u,rfl,rfl⟩ | ⟨y,u,rfl,rfl⟩
   ·rw [Wp] at h;exact nI x t j u _ _ _ _ h
   ·rw [WZ] at h;exact wpAny_eqBool_str h
 «strs»:=λk x t v h=>by
  rcases qz h with ⟨i,u,rfl,e⟩ | ⟨y,u,rfl,e⟩
  ·exact nomatch e
  ·injection e with e1 _
   subst e1
   cases v <;> rfl
theorem QI (prog:Program) (w:b9) (i:Int) (t:Tok):(jv prog w).is (.inl i) (.int i t)=true:=Ye i t
theorem X0 (prog:Program) (w:b9) (x:Str) (t:Tok):(jv prog w).is (.inr x) (.str x t)=true:=Yk x t
end L2
namespace L2
inductive V where
 | non | bl (b:Bool) | int (i:Int) | str (x:Str) | byt (b:Array UInt8) | flt (b:UInt64) | ref (a:Addr) | ty (n:String)
 deriving DecidableEq
noncomputable def jE:V->ag->Prop
 | .non,u=>u=b8
 | .bl b,u=>u=lQ b
 | .int i,u=>∃t,u=lF i t
 | .str x,u=>∃t,u=mZ x t
 | .byt b,u=>∃t,u=Value.bytes b t
 | .flt b,u=>∃t,u=pE b t
 | .ref a,u=>u=aS a
 | .ty n,u=>u=i6 n
noncomputable abbrev jC:List V->List ag->Prop:=cG jE
theorem jC.length {xs:List V}{us:List ag}(r:jC xs us):xs.length=us.length:=aK r
theorem jC.get:∀{xs:List V}{us:List ag}{i:Nat}{x:V},jC xs us->xs[i]? = some x->∃u,us[i]? = some u/\jE x u
 | _,_,_,_,.nil,e=>by simp at e
 | _,_,0,_,.cons r _,e=>by simp at e;subst e;exact ⟨_,rfl,r⟩
 | _,_,i+1,x,.cons _ t,e=>by
  obtain ⟨u,h1,h2⟩:=jC.get (i:=i) (x:=x) t (by simpa using e)
  exact ⟨u,by simpa using h1,h2⟩
theorem jC.set {x:V}{u:ag}(r:jE x u):∀{xs:List V}{us:List ag}(i:Nat),jC xs us->jC (xs.set i x) (us.set i u)
 | _,_,_,.nil=>.nil
 | _,_,0,.cons _ t=>.cons r t
 | _,_,i+1,.cons q t=>.cons q (jC.set r i t)
theorem jC.append:∀{xs ys:List V}{us ws:List ag},jC xs us->jC ys ws->jC (xs++ys) (us++ws)
 | _,_,_,_,.nil,s=>s
 | _,_,_,_,.cons r t,s=>.cons r (jC.append t s)
theorem jC.take:∀{xs:List V}{us:List ag}(n:Nat),jC xs us->jC (xs.take n) (us.take n)
 | _,_,0,_=>.nil
 | _,_,_+1,.nil=>.nil
 | _,_,n+1,.cons r t=>.cons r (jC.take n t)
theorem jC.drop:∀{xs:List V}{us:List ag}(n:Nat),jC xs us->jC (xs.drop n) (us.drop n)
 | _,_,0,r=>r
 | _,_,_+1,.nil=>.nil
 | _,_,n+1,.cons _ t=>jC.drop n t
noncomputable def yG:Option V->Option ag->Prop
 | some v,some u=>jE v u
 | none,none=>True
 | _,_=>False
noncomputable def KV {κ:Type}:List (κ×V)->List (κ×ag)->Prop:=cG λ(p:κ×V) (q:κ×ag)=>p.1=q.1/\jE p.2 q.2
noncomputable def kV:Key->V
 | .inl i=>.int i
 | .inr x=>.str x
inductive HO where
  | lst (xs:List V)
  | tup (xs:List V)
  | dK (kvs:List (Key×V)) | dT (kvs:List (List Key×V))
  | set (S:Int->Bool) (n:Nat)
  | ins (C dx:Addr) (fs:List (Str×V))
  | own (x:Addr)
  | xd (fs:List (Str×V))
  | met (f x:Addr)
  | rng (lo hi:Int)
  | frz (o:Obj) (u:HO)
  | tbl (ps:Array ag)
  | ext (φ:Heap->Prop)
noncomputable abbrev Hp:=Addr->Option HO
noncomputable def upd (H:Hp) (a:Addr) (o:HO):Hp:=λb=>if b=a then some o else H b
theorem j5 {H:Hp}{a:Addr}{o:HO}:upd H a o a=some o:=by unfold upd;rw [if_pos rfl]
theorem j6 {H:Hp}{a b:Addr}{o:HO}(h:b≠a):upd H a o b=H b:=by unfold upd;rw [if_neg h]
theorem ji {H:Hp}{a b:Addr}{o u:HO}(h:H a=some o) (h':H b=some u) (d:o≠u):a≠b:=by
 intro e;subst e;rw [h] at h';exact d (aR h')
theorem j1 {H:Hp}{a b:Addr}{o:HO}(h:H a=some o) (h':H b=none):a≠b:=by
 intro e;subst e;rw [h] at h';cases h'
section
variable (P:Program) (w:b9)
noncomputable def qi (H:Hp) (h:Heap) (a:Addr):HO->Prop
 | .lst xs=>xs.length<=sizeLine/\∃(its:List ag) (n:Nat),jC xs its/\h.get? a=some { cls:=.type "list",data:=.seq its.toArray n }
 | .tup xs=>xs.length<=sizeLine/\∃its:List ag,jC xs its/\IsTup h a its.toArray
 | .dK kvs=>kvs.length<=sizeLine/\(a == d9)=false/\∃vs,KV kvs vs/\h.DictOf (jv P w) a vs
 | .dT kvs=>kvs.length<=sizeLine/\(a == d9)=false/\∃xs:List (List Key×Addr×ag),
   cG (λ(p:List Key×V) (q:List Key×Addr×ag)=>p.1=q.1/\H q.2.1=some (.tup (p.1.map kV))/\jE p.2 q.2.2) kvs xs /\
   ∃o es ep,h.get? a=some o/\o.ExactDict/\o.data = .dict es ep/\es.toList=xs.map (entryOfKey (d5 (jv P w)))/\(xs.map (·.1)).Nodup
 | .set S n=>h.SetOf (intKind P w) a S n
 | .ins C dx fs=>H dx=some (.own a)/\fs.length<=1000/\dx≠a/\h.get? a=some (cR C dx) /\
   ∃mA,h.Ns1 dx mA/\(∀f,yG (fs.lookup f) (mA f))/\o9 mA (fs.map (·.1))
 | .own _=>∃o,h.get? a=some o
 | .xd fs=>∃mA,h.Ns1 a mA/\∀f,yG (fs.lookup f) (mA f)
 | .rng lo hi=>∃t u v,h.get? a=some { cls:=.type "range",data:=.fields #[.int lo t,.int hi u,.int 1 v] }
 | .frz o u=>h.get? a=some o/\qi H h a u
 | .tbl ps=>h.get? a=some { cls:=.none,data:=.fields ps }
 | .met f x=>h.get? a=some (l9 (.ref f) (.ref x))
 | .ext φ=>φ h/\(∃o,h.get? a=some o)/\∀h1 h2:Heap,φ h1->(∀o,h1.get? a=some o->h2.get? a=some o)->φ h2
noncomputable def HOk (H:Hp) (h:Heap):Prop:=∀a o,H a=some o->qi P w H h a o
end
section
variable {P:Program}{w:b9}{H H':Hp}{h h':Heap}{a:Addr}{o:HO}
theorem qi.lt (x:qi P w H h a o):a<h.objs.size:=by
 cases o with
 | lst xs=>obtain ⟨_,_,_,_,e⟩:=x;exact aw e
 | tup xs=>obtain ⟨_,_,_,p⟩:=x;exact p.lt
 | dK kvs=>obtain ⟨_,_,_,_,o,_,_,e,_⟩:=x;exact aw e
 | dT kvs=>obtain ⟨_,_,_,_,o,_,_,e,_⟩:=x;exact aw e
 | set S n=>obtain ⟨o,_,_,_,e,_⟩:=x;exact aw e
 | ins C dx fs=>obtain ⟨_,_,_,e,_⟩:=x;exact aw e
 | own y=>obtain ⟨_,e⟩:=x;exact aw e
 | xd fs=>obtain ⟨_,⟨_,_,_,e,_⟩,_⟩:=x;exact aw e
 | rng lo hi=>obtain ⟨_,_,_,e⟩:=x;exact aw e
 | frz ob u=>obtain ⟨e,_⟩:=x;exact aw e
 | tbl ps=>exact aw (show h.get? a=some _ from x)
 | met f y=>exact aw (show h.get? a=some _ from x)
 | ext φ=>obtain ⟨_,⟨_,e⟩,_⟩:=x;exact aw e
theorem Paired.mapP {α β:Type}{F G:α->β->Prop}:∀{l₁:List α}{l₂:List β},cG F l₁ l₂->(∀a b,F a b->G a b)->cG G l₁ l₂
 | _,_,.nil,_=>.nil
 | _,_,.cons r t,f=>.cons (f _ _ r) (Paired.mapP t f)
theorem qi.stay (x:qi P w H h a o) (k:∀b u,(b=a\/H b=some (.own a))->h.get? b=some u->h'.get? b=some u)
  (ho:∀b,H b=some (.own a)->H' b=some (.own a)) (ht:∀b xs,H b=some (.tup xs)->H' b=some (.tup xs)):qi P w H' h' a o:=by
 induction o with
 | lst xs=>obtain ⟨z,its,n,r,e⟩:=x;exact ⟨z,its,n,r,k _ _ (.inl rfl) e⟩
 | tup xs=>obtain ⟨z,its,r,ob,e,c⟩:=x;exact ⟨z,its,r,ob,k _ _ (.inl rfl) e,c⟩
 | dK kvs=>obtain ⟨z,y,vs,r,ob,es,ep,e,c⟩:=x;exact ⟨z,y,vs,r,ob,es,ep,k _ _ (.inl rfl) e,c⟩
 | dT kvs =>
  obtain ⟨z,y,xs,r,ob,es,ep,e,c⟩:=x
  exact ⟨z,y,xs,Paired.mapP r λp q z=>⟨z.1,ht _ _ z.2.1,z.2.2⟩,ob,es,ep,k _ _ (.inl rfl) e,c⟩
 | set S n=>obtain ⟨ob,es,ep,t,e,c⟩:=x;exact ⟨ob,es,ep,t,k _ _ (.inl rfl) e,c⟩
 | ins C dx fs =>
  obtain ⟨d,z,ne,e,mA,⟨od,es,ep,e2,c⟩,r⟩:=x
  exact ⟨ho _ d,z,ne,k _ _ (.inl rfl) e,mA,⟨od,es,ep,k _ _ (.inr d) e2,c⟩,r⟩
 | own y=>obtain ⟨ob,e⟩:=x;exact ⟨ob,k _ _ (.inl rfl) e⟩
 | xd fs=>obtain ⟨mA,⟨od,es,ep,e,c⟩,r⟩:=x;exact ⟨mA,⟨od,es,ep,k _ _ (.inl rfl) e,c⟩,r⟩
 | rng lo hi=>obtain ⟨t,u,v,e⟩:=x;exact ⟨t,u,v,k _ _ (.inl rfl) e⟩
 | frz ob u ih=>obtain ⟨e,q⟩:=x;exact ⟨k _ _ (.inl rfl) e,ih q⟩
 | tbl ps =>
  have e:h.get? a=some { cls:=.none,data:=.fields ps }:=x
  show h'.get? a=some { cls:=.none,data:=.fields ps }
  exact k a _ (.inl rfl) e
 | met f y =>
  have e:h.get? a=some (l9 (.ref f) (.ref y)):=x
  show h'.get? a=some (l9 (.ref f) (.ref y))
  exact k a _ (.inl rfl) e
 | ext φ=>obtain ⟨p,⟨o,e⟩,st⟩:=x;exact ⟨st _ _ p λo q=>k _ _ (.inl rfl) q,⟨o,k _ _ (.inl rfl) e⟩,st⟩
theorem HOk.lt (x:HOk P w H h) (e:H a=some o):a<h.objs.size:=(x a o e).lt
theorem HOk.fresh (x:HOk P w H h) (e:h.objs.size<=a):H a=none:=by
 cases q:H a with
 | none=>rfl
 | some u=>exact absurd (aQ (x.lt q) e) (cq _)
theorem HOk.kept (x:HOk P w H h) (k:∀b u,h.get? b=some u->h'.get? b=some u):HOk P w H h':=λa o e =>
 (x a o e).stay (λb u _ q=>k b u q) (λ_ q=>q) λ_ _ q=>q
theorem HOk.laid (x:HOk P w H h) (k:∀b u,h.get? b=some u->h'.get? b=some u) (hp:h.objs.size<=a) (new:qi P w (upd H a o) h' a o):HOk P w (upd H a o) h':=λb u e=>by
 have hn:=x.fresh hp
 by_cases hb:b=a
 ·subst hb;rw [j5] at e;cases e;exact new
 ·rw [j6 hb] at e
  exact (x b u e).stay (λc v _ q=>k c v q) (λc q=>by rw [j6 (j1 q hn)];exact q) λc xs q=>by rw [j6 (j1 q hn)];exact q
end
noncomputable def Rd (H:Hp) (a:Addr) (u:HO):Prop:=H a=some u\/∃o,H a=some (.frz o u)
theorem Rd.ok {P:Program}{w:b9}{H:Hp}{h:Heap}{a:Addr}{u:HO}(r:Rd H a u) (x:HOk P w H h):qi P w H h a u:=by
 rcases r with r | ⟨o,r⟩
 ·exact x a u r
 ·obtain ⟨_,q⟩:=x a _ r
  exact q
noncomputable def Mut:Option HO->Prop
 | some (.lst _)=>True
 | some (.dK _)=>True
 | some (.dT _)=>True
 | some (.set _ _)=>True
 | some (.ins _ _ _)=>True
 | some (.ext _)=>True
 | _=>False
section
variable {P:Program}{w:b9}{H:Hp}{h h':Heap}{x e:Addr}{o':HO}
theorem HOk.write (ok:HOk P w H h) (mu:Mut (H x)) (he:e=x\/H e=some (.own x)) (k:∀b u,b≠e->h.get? b=some u->h'.get? b=some u) (heo:∃u,h'.get? e=some u)
  (new:qi P w (upd H x o') h' x o'):HOk P w (upd H x o') h':=λb u q=>by
 have nown:∀c y,H c=some (.own y)->c≠x:=λc y r z=>by subst z;rw [r] at mu;exact mu
 have ntup:∀c xs,H c=some (.tup xs)->c≠x:=λc xs r z=>by subst z;rw [r] at mu;exact mu
 by_cases hb:b=x
 ·subst hb;rw [j5] at q;cases q;exact new
 ·rw [j6 hb] at q
  by_cases hbe:b=e
  ·have q':H b=some (.own x):=by
    rcases he with z | z
    ·exact absurd (hbe.trans z) hb
    ·rw [hbe];exact z
   rw [q] at q';cases q'
   obtain ⟨v,hv⟩:=heo
   exact ⟨v,by rw [hbe];exact hv⟩
  ·refine (ok b u q).stay (λc v hc r=>k c v ?_ r) (λc r=>by rw [j6 (nown c b r)];exact r) λc xs r=>by rw [j6 (ntup c xs r)];exact r
   rcases hc with rfl | hc
   ·exact hbe
   ·rintro rfl
    rcases he with z | z
    ·exact nown c b hc z
    ·rw [hc] at z;cases z;exact hb rfl
end
structure Un (fs ex:List Addr) (H H':Hp) (h h':Heap):Prop where
 keep:∀b o,h.get? b=some o->H b=none->b∉fs->b∉ex->h'.get? b=some o
 slot:∀b o,h.get? b=some o->H b=none->b∈fs->b∉ex->∃sl,h'.get? b=some { o with slots:=sl }
 free:∀b o,h.get? b=some o->H b=none->b∉ex->H' b=none
 there:∀b o,h.get? b=some o->b∉ex->∃o',h'.get? b=some o'
 tups:∀b xs,H b=some (.tup xs)->H' b=some (.tup xs)
 frzs:∀b o u,H b=some (.frz o u)->H' b=some (.frz o u)
 tbls:∀b ps,H b=some (.tbl ps)->∃more,H' b=some (.tbl (ps++more))
section
variable {fs fs' ex ex':List Addr}{H H1 H2:Hp}{h h1 h2 h':Heap}{a x e:Addr}{o:HO}
theorem Un.any (u:Un fs ex H H1 h h1) {b:Addr}{ob:Obj}(q:h.get? b=some ob) (n:H b=none) (hx:b∉ex):∃sl,h1.get? b=some { ob with slots:=sl }:=by
 by_cases hb:b∈fs
 ·exact u.slot b ob q n hb hx
 ·exact ⟨ob.slots,u.keep b ob q n hb hx⟩
theorem Un.kept (k:∀b u,h.get? b=some u->h'.get? b=some u):Un fs ex H H h h' :=
 ⟨λb ob q _ _ _=>k b ob q,λb ob q _ _ _=>⟨ob.slots,k b ob q⟩,λ_ _ _ n _=>n,λb ob q _=>⟨ob,k b ob q⟩,λ_ _ q=>q,λ_ _ _ q=>q,λ_ ps q=>⟨#[],by rw [q];simp⟩⟩
theorem Un.refl:Un fs ex H H h h:=Un.kept λ_ _ q=>q
theorem Un.laid (k:∀b u,h.get? b=some u->h'.get? b=some u) (hp:h.objs.size<=a) (hn:H a=none):Un fs ex H (upd H a o) h h' where
 keep:=λb u q _ _ _=>k b u q
 slot:=λb u q _ _ _=>⟨u.slots,k b u q⟩
 free:=λb u q n _=>by rw [j6 (aA (aQ (aw q) hp))];exact n
 there:=λb u q _=>⟨u,k b u q⟩
 tups:=λb xs q=>by rw [j6 (j1 q hn)];exact q
 frzs:=λb u xs q=>by rw [j6 (j1 q hn)];exact q
 tbls:=λb ps q=>⟨#[],by rw [j6 (j1 q hn),q];simp⟩
theorem Un.write (mu:Mut (H x)) (he:e=x\/H e=some (.own x)) (k:∀b u,b≠e->h.get? b=some u->h'.get? b=some u) (heo:∃u,h'.get? e=some u):Un fs ex H (upd H x o) h h':=by
 have hx:∀b,H b=none->b≠x:=λb n z=>by subst z;rw [n] at mu;exact mu
 have hb:∀b,H b=none->b≠e:=λb n z=>by
  subst z
  rcases he with r | r
  ·exact hx b n r
  ·rw [n] at r;cases r
 have hm:∀b u,H b=some u->¬Mut (some u)->b≠x:=λb u q nm z=>by subst z;rw [q] at mu;exact nm mu
 refine ⟨λb u q n _ _=>k b u (hb b n) q,λb u q n _ _=>⟨u.slots,k b u (hb b n) q⟩,λb u q n _=>by rw [j6 (hx b n)];exact n,λb u q _=>?_,
  λb xs q=>by rw [j6 (hm b _ q λz=>z)];exact q,λb u xs q=>by rw [j6 (hm b _ q λz=>z)];exact q,λb ps q=>⟨#[],by rw [j6 (hm b _ q λz=>z),q];simp⟩⟩
 by_cases hbe:b=e
 ·subst hbe;exact heo
 ·exact ⟨u,k b u hbe q⟩
end
noncomputable def trk (h:Heap) (H:Hp):List Addr:=(aG h.objs.size).filter λa=>(H a).isSome
noncomputable def gv (h:Heap) (H:Hp):Heap:=PySem.W.hideAll h (trk h H)
theorem YM (h:Heap) (H:Hp):(gv h H).objs.size=h.objs.size:=PySem.W.hideAll_size _ _
theorem Vd {h:Heap}{H:Hp}{b:Addr}{o:Obj}(e:h.get? b=some o) (n:H b=none):(gv h H).get? b=some o :=
 PySem.W.hideAll_get _ e λhm=>by
  have q:(H b).isSome=true:=(List.mem_filter.mp hm).2
  rw [n] at q;simp at q
theorem UU {h:Heap}{H:Hp}{b:Addr}{o:Obj}(e:(gv h H).get? b=some o):h.get? b=some o/\H b=none:=by
 have e':h.get? b=some o:=PySem.W.of_hideAll (trk h H) e
 refine ⟨e',?_⟩
 cases q:H b with
 | none=>rfl
 | some x =>
  have hm:b∈trk h H:=List.mem_filter.mpr ⟨List.mem_range.mpr (aw e'),by simp [q]⟩
  have z:(gv h H).get? b=none:=PySem.W.hideAll_none (trk h H) hm
  rw [z] at e;cases e
noncomputable def UD (g h:Heap) (L:Addr):List (Addr×Obj):=(aG h.objs.size).filterMap λa=>if a=L\/(g.get? a).isSome=true then none else (h.get? a).map λo=>(a,o)
noncomputable def zA (g h:Heap) (L d:Addr):List (Addr×Obj):=(UD g h L).filter λp=>decide (p.1≠d)
end L2
namespace L2
structure Mod (K:ah) (mg:Str->Option ag) (base:Heap):Prop where
 kin:K.In base
 glob:base.Ns mainGlobals mg
 blt:∃mb,base.Ns lR mb/\∀x:Str,x ≠ "__name__" -> mb x=fF x
 nolimit:base.NoLimit
structure Cx where
 prog:Program
 w:b9
 K:ah
 mg:Str->Option ag
 base:Heap
 A:bj
 N:List Str
 s₀:Shared
 H₀:Hp
 env:Env
 outer:List Env
 stack:List Env
 ex:List Addr
 fn:Str->Bool
 calm:Bool
 pn:List (Addr×Obj)
 xe:ag->Shared->Prop
noncomputable def frs (l:List Env):List Addr:=l.filterMap (·.frame)
noncomputable abbrev Cx.fs (X:Cx):List Addr:=frs X.outer
noncomputable def Vis (sc:Scope) (x:Str):Prop:=sc.names.lookup x=some .local\/sc.names.lookup x=some .cell\/sc.names.lookup x=some .free
noncomputable def Loc (sc:Scope) (x:Str):Prop:=sc.names.lookup x=some .local\/sc.names.lookup x=some .cell
noncomputable def Look (env:Env) (h:Heap) (m:Str->Option ag) (x:Str) (u:ag):Prop :=
 (env.kindOf x=some .local/\m x=some u)\/((env.kindOf x=some .cell\/env.kindOf x=some .free)/\∃c,env.cells.lookup x=some c/\h.IsCell c (some u))
structure Cx.Ok (X:Cx):Prop where
 mod:Mod X.K X.mg X.base
 kind:X.env.scope.kind = .function
 glob:X.env.globals=mainGlobals
 blt:X.env.builtins=lR
 above:X.s₀.heap.objs.size<=X.env.locals
 inj:∀x y c,X.env.cells.lookup x=some c->X.env.cells.lookup y=some c->x=y
 has:∀x,(X.env.kindOf x=some .cell\/X.env.kindOf x=some .free)->∃c,X.env.cells.lookup x=some c
 cab:∀x c,X.fn x=true->X.env.cells.lookup x=some c->X.s₀.heap.objs.size<=c
 hd:X.calm=true->X.A.handled=none
 frames:X.A.frames=some X.stack
 stk:X.stack=X.outer\/(X.stack=X.env::X.outer/\X.env.frame=some X.env.locals)
 exf:∀b∈X.ex,b≠X.env.locals/\∀x c,X.env.cells.lookup x=some c->c≠b
 bs:∀b o,X.base.get? b=some o->X.s₀.heap.get? b=some o/\X.H₀ b=none
 bsz:X.base.objs.size<=X.s₀.heap.objs.size
 noex:∀b o,X.base.get? b=some o->b∉X.ex
 exfs:∀b∈X.ex,b∉X.fs
 funs:X.s₀.heap.FunFrames X.base X.outer
 frf:∀b∈X.fs,X.H₀ b=none
structure Inv (X:Cx) (pins:List (Addr×Obj)) (σ:List (Option V)) (H:Hp) (s:Shared):Prop where
 ok:X.Ok
 os:s.os=X.s₀.os
 bare:i9 s.gens
 base:Un X.fs X.ex X.H₀ H X.s₀.heap s.heap
 loc:∃m,s.heap.Ns X.env.locals m/\∀(i:Nat) (x:Str) (v:V),X.N[i]? = some x->σ[i]? = some (some v)->Vis X.env.scope x->∃u,jE v u/\Look X.env s.heap m x u
 cell:∀x c,X.env.cells.lookup x=some c->∃v,s.heap.IsCell c v
 free:H X.env.locals=none
 freeC:∀x c,X.env.cells.lookup x=some c->H c=none
 pin:∀p∈X.pn++pins,s.heap.get? p.1=some p.2/\H p.1=none/\p.1≠X.env.locals/\p.1∉X.fs/\∀v,p.2.data≠.cell v
 hok:HOk X.prog X.w H s.heap
 len:σ.length=X.N.length
section
variable {X:Cx}{pins:List (Addr×Obj)}{σ:List (Option V)}{H H':Hp}{s:Shared}{h':Heap}
theorem Cx.Ok.nofr (ok:X.Ok) {b:Addr}{o:Obj}(e:X.base.get? b=some o):b∉X.fs:=λhb=>by
 have:=(ok.funs.mem hb).1
 rw [e] at this;cases this
theorem Inv.bs (I:Inv X pins σ H s):∀b o,X.base.get? b=some o->s.heap.get? b=some o/\H b=none:=λb o e =>
 ⟨I.base.keep b o (I.ok.bs b o e).1 (I.ok.bs b o e).2 (I.ok.nofr e) (I.ok.noex b o e),I.base.free b o (I.ok.bs b o e).1 (I.ok.bs b o e).2 (I.ok.noex b o e)⟩
theorem Inv.bk (I:Inv X pins σ H s):∀b o,X.base.get? b=some o->s.heap.get? b=some o:=λb o e=>(I.bs b o e).1
theorem Inv.mod (I:Inv X pins σ H s):Mod X.K X.mg X.base:=I.ok.mod
theorem Inv.kIn (I:Inv X pins σ H s):X.K.In s.heap:=I.ok.mod.kin.keeps I.bk
theorem Inv.lt (I:Inv X pins σ H s):X.env.locals<s.heap.objs.size:=let ⟨_,hn,_⟩:=I.loc;hn.lt
theorem Inv.sz (I:Inv X pins σ H s):X.s₀.heap.objs.size<=s.heap.objs.size:=aF I.ok.above (eV I.lt)
theorem Inv.nofs (I:Inv X pins σ H s) {a:Addr}(h:s.heap.objs.size<=a):a∉X.fs:=λhb=>by
 obtain ⟨_,o,ho,_⟩:=I.ok.funs.mem hb
 exact absurd (aQ (aw ho) (aF I.sz h)) (cq _)
theorem Inv.cne (I:Inv X pins σ H s):∀x c,X.env.cells.lookup x=some c->c≠X.env.locals:=λx c e z=>by
 obtain ⟨v,o,ho,hd⟩:=I.cell x c e
 obtain ⟨m,⟨o',es,ep,ho',hd',_⟩,_⟩:=I.loc
 rw [z,ho'] at ho;cases ho;rw [hd'] at hd;cases hd
theorem Inv.funs (I:Inv X pins σ H s):s.heap.FunFrames X.base X.outer:=by
 have all:∀(l:List Env),(∀b∈frs l,b∈X.fs)->X.s₀.heap.FunFrames X.base l->s.heap.FunFrames X.base l:=by
  intro l
  induction l with
  | nil=>intro _ _;trivial
  | cons env r ih =>
   intro hs hl
   obtain ⟨hk,⟨L,o,hf,hn,ho,hd⟩,hr⟩:=hl
   have hL:L∈X.fs:=hs L (by unfold frs;rw [iD,hf];exact aI)
   obtain ⟨sl,e⟩:=I.base.slot L o ho (I.ok.frf L hL) hL λz=>I.ok.exfs L z hL
   exact ⟨hk,⟨L,_,hf,hn,e,hd⟩,ih (λb hb=>hs b (by unfold frs;rw [iD,hf];exact aE _ hb)) hr⟩
 exact all X.outer (λ_ hb=>hb) I.ok.funs
theorem Inv.stack (I:Inv X pins σ H s):s.heap.FunFrames X.base X.stack:=by
 rcases I.ok.stk with e | ⟨e,hf⟩
 ·rw [e];exact I.funs
 ·rw [e]
  obtain ⟨m,hn,_⟩:=I.loc
  refine .cons (by rw [I.ok.kind];decide) hf hn ?_ I.funs
  exact Heap.get?_none_of_le (aF I.ok.bsz I.ok.above)
theorem Inv.stkSub (I:Inv X pins σ H s):∀b∈frs X.stack,b∈X.env.locals::X.fs:=λb hb=>by
 rcases I.ok.stk with e | ⟨e,hf⟩
 ·rw [e] at hb;exact aE _ hb
 ·rw [e] at hb
  unfold frs at hb
  rw [iD,hf] at hb
  exact hb
theorem Inv.stkFree (I:Inv X pins σ H s):∀b∈frs X.stack,H b=none:=λb hb=>by
 rcases List.mem_cons.mp (I.stkSub b hb) with e | hb
 ·rw [e];exact I.free
 ·obtain ⟨_,o,ho,_⟩:=I.ok.funs.mem hb
  exact I.base.free b o ho (I.ok.frf b hb) λz=>I.ok.exfs b z hb
theorem Inv.step {g':Array sN}{t':Nat}{d':Drawn}{ch:List Addr}(I:Inv X pins σ H s)
  (hch:∀b∈ch,(b∈X.ex\/X.s₀.heap.objs.size<=b)/\b≠X.env.locals/\(∀x c,X.env.cells.lookup x=some c->c≠b)/\∀p∈X.pn++pins,p.1≠b)
  (keep:∀b o,b≠X.env.locals->b∉X.fs->b∉ch->s.heap.get? b=some o->H b=none->h'.get? b=some o)
  (slot:∀b o,b≠X.env.locals->b∈X.fs->b∉ch->s.heap.get? b=some o->H b=none->∃sl,h'.get? b=some { o with slots:=sl }) (free:∀b o,b∉ch->s.heap.get? b=some o->H b=none->H' b=none)
  (there:∀b o,b∉ch->s.heap.get? b=some o->∃o',h'.get? b=some o')
  (tups:∀b xs,H b=some (.tup xs)->H' b=some (.tup xs)) (frzs:∀b o u,H b=some (.frz o u)->H' b=some (.frz o u)) (tbls:∀b ps,H b=some (.tbl ps)->∃more,H' b=some (.tbl (ps++more)))
  (ns:∀m,s.heap.Ns X.env.locals m->h'.Ns X.env.locals m) (hok:HOk X.prog X.w H' h') (hg:i9 g') :
  Inv X pins σ H' { s with heap:=h',gens:=g',drawn:=d',toks:=t' }:=by
 have neL:∀b o,X.s₀.heap.get? b=some o->b≠X.env.locals:=λb o e=>aA (aQ (aw e) I.ok.above)
 have neC:∀b o,X.s₀.heap.get? b=some o->b∉X.ex->b∉ch:=λb o e hx hb=>by
  rcases (hch b hb).1 with z | z
  ·exact hx z
  ·exact absurd (aQ (aw e) z) (cq _)
 have cellK:∀x c,X.env.cells.lookup x=some c->∀v,s.heap.IsCell c v->h'.IsCell c v:=λx c e v ⟨o,ho,hd⟩=>by
  have nch:c∉ch:=λz=>(hch c z).2.2.1 x c e rfl
  by_cases hc:c∈X.fs
  ·obtain ⟨sl,q⟩:=slot c o (I.cne x c e) hc nch ho (I.freeC x c e)
   exact ⟨_,q,hd⟩
  ·exact ⟨o,keep c o (I.cne x c e) hc nch ho (I.freeC x c e),hd⟩
 refine ⟨I.ok,I.os,hg,⟨λb o e n hb hx=>?_,λb o e n hb hx=>?_,λb o e n hx=>?_,λb o e hx=>?_,λb xs e=>tups b xs (I.base.tups b xs e),λb o xs e=>frzs b o xs (I.base.frzs b o xs e),λb ps e=>?_⟩,?_,λx c e=>?_,?_,λx c e=>?_,λp hp=>?_,hok,I.len⟩
 ·exact keep b o (neL b o e) hb (neC b o e hx) (I.base.keep b o e n hb hx) (I.base.free b o e n hx)
 ·obtain ⟨sl,e1⟩:=I.base.slot b o e n hb hx
  obtain ⟨sl',e2⟩:=slot b _ (neL b o e) hb (neC b o e hx) e1 (I.base.free b o e n hx)
  exact ⟨sl',e2⟩
 ·obtain ⟨o',e1⟩:=I.base.there b o e hx
  exact free b o' (neC b o e hx) e1 (I.base.free b o e n hx)
 ·obtain ⟨o',e1⟩:=I.base.there b o e hx
  exact there b o' (neC b o e hx) e1
 ·obtain ⟨m1,e1⟩:=I.base.tbls b ps e
  obtain ⟨m2,e2⟩:=tbls b _ e1
  exact ⟨m1++m2,by rw [e2,Array.append_assoc]⟩
 ·obtain ⟨m,hn,hl⟩:=I.loc
  refine ⟨m,ns m hn,λi x v e1 e2 e3=>?_⟩
  obtain ⟨u,r,l⟩:=hl i x v e1 e2 e3
  refine ⟨u,r,?_⟩
  rcases l with l | ⟨k,c,e,z⟩
  ·exact .inl l
  ·exact .inr ⟨k,c,e,cellK x c e _ z⟩
 ·obtain ⟨v,z⟩:=I.cell x c e
  exact ⟨v,cellK x c e v z⟩
 ·obtain ⟨m,⟨o,_,_,ho,_⟩,_⟩:=I.loc
  exact free _ o (λz=>(hch _ z).2.1 rfl) ho I.free
 ·obtain ⟨v,o,ho,hd⟩:=I.cell x c e
  exact free c o (λz=>(hch c z).2.2.1 x c e rfl) ho (I.freeC x c e)
 ·obtain ⟨e,n,ne,nf,d⟩:=I.pin p hp
  have nch:p.1∉ch:=λz=>(hch p.1 z).2.2.2 p hp rfl
  exact ⟨keep p.1 p.2 ne nf nch e n,free p.1 p.2 nch e n,ne,nf,d⟩
theorem Inv.un {t':Nat}(I:Inv X pins σ H s) (u:Un X.fs [] H H' s.heap h') (hok:HOk X.prog X.w H' h'):Inv X pins σ H' { s with heap:=h',toks:=t' }:=by
 obtain ⟨m,⟨o,es,ep,ho,r⟩,_⟩:=id I.loc
 obtain ⟨sl,hL⟩:=u.any ho I.free (by simp)
 exact I.step (g':=s.gens) (d':=s.drawn) (ch:=[]) (λ_ z=>nomatch z) (λb o _ hb _ e n=>u.keep b o e n hb (by simp)) (λb o _ hb _ e n=>u.slot b o e n hb (by simp)) (λb o _ e n=>u.free b o e n (by simp)) (λb o _ e=>u.there b o e (by simp)) u.tups u.frzs u.tbls (λm' hm=>by
  obtain ⟨o',es',ep',ho',r'⟩:=hm
  rw [ho] at ho';cases ho'
  exact ⟨_,es',ep',hL,r'⟩) hok I.bare
theorem Inv.call {g':Array sN}{t':Nat}{d':Drawn}{ch:List Addr}(I:Inv X pins σ H s) (u:Un (frs X.stack) ch H H' s.heap h') (hok:HOk X.prog X.w H' h') (hg:i9 g')
  (hch:∀b∈ch,(b∈X.ex\/X.s₀.heap.objs.size<=b)/\b≠X.env.locals/\(∀x c,X.env.cells.lookup x=some c->c≠b)/\∀p∈X.pn++pins,p.1≠b) :
  Inv X pins σ H' { s with heap:=h',gens:=g',drawn:=d',toks:=t' }:=by
 obtain ⟨m,⟨o,es,ep,ho,r⟩,_⟩:=id I.loc
 obtain ⟨sl,hL⟩:=u.any ho I.free λz=>(hch _ z).2.1 rfl
 exact I.step (ch:=ch) hch (λb o hL hb hc e n=>u.keep b o e n (λz=>(List.mem_cons.mp (I.stkSub b z)).elim hL hb) hc) (λb o _ _ hc e n=>u.any e n hc) (λb o hc e n=>u.free b o e n hc) (λb o hc e=>u.there b o e hc) u.tups u.frzs u.tbls (λm' hm=>by
  obtain ⟨o',es',ep',ho',r'⟩:=hm
  rw [ho] at ho';cases ho'
  exact ⟨_,es',ep',hL,r'⟩) hok hg
theorem Inv.turned {t':Nat}{it:Addr}(I:Inv X pins σ H s) (k:∀b o,b≠it->s.heap.get? b=some o->h'.get? b=some o) (hn:H it=none) (hL:it≠X.env.locals)
  (h1:it∈X.ex\/X.s₀.heap.objs.size<=it) (h2:∀x c,X.env.cells.lookup x=some c->c≠it) (h3:∀p∈X.pn++pins,p.1≠it):Inv X pins σ H { s with heap:=h',toks:=t' }:=by
 have nit:∀b u,H b=some u->b≠it:=λb u e z=>by rw [z,hn] at e;cases e
 refine I.step (g':=s.gens) (d':=s.drawn) (ch:=[it]) (λb hb=>?_) (λb o _ _ hc e _=>k b o (λz=>hc (by simp [z])) e) (λb o _ _ hc e _=>⟨o.slots,k b o (λz=>hc (by simp [z])) e⟩) (λ_ _ _ _ n=>n)
  (λb o hc e=>⟨o,k b o (λz=>hc (by simp [z])) e⟩) (λ_ _ e=>e) (λ_ _ _ e=>e) (λb ps e=>⟨#[],by rw [e];simp⟩) (λm hm=>?_) (λb u e=>?_) I.bare
 ·have e:b=it:=by simpa using hb
  subst e
  exact ⟨h1,hL,h2,h3⟩
 ·obtain ⟨o,es,ep,ho,r⟩:=hm
  exact ⟨o,es,ep,k _ o (cj hL) ho,r⟩
 ·refine (I.hok b u e).stay (λc v hc q=>k c v ?_ q) (λ_ q=>q) λ_ _ q=>q
  rcases hc with z | z
  ·rw [z];exact nit b u e
  ·exact nit c _ z
theorem Inv.tok (I:Inv X pins σ H s) (t:Nat):Inv X pins σ H { s with toks:=t }:=I.un (h':=s.heap) (t':=t) Un.refl I.hok
theorem Inv.kept {t':Nat}(I:Inv X pins σ H s) (k:∀b u,s.heap.get? b=some u->h'.get? b=some u):Inv X pins σ H { s with heap:=h',toks:=t' }:=I.un (Un.kept k) (I.hok.kept k)
theorem Inv.laid {a:Addr}{o:HO}{t':Nat}(I:Inv X pins σ H s) (k:∀b u,s.heap.get? b=some u->h'.get? b=some u) (hp:s.heap.objs.size<=a) (new:qi X.prog X.w (upd H a o) h' a o) :
  Inv X pins σ (upd H a o) { s with heap:=h',toks:=t' }:=I.un (Un.laid k hp (I.hok.fresh hp)) (I.hok.laid k hp new)
theorem Inv.write {x e:Addr}{o:HO}{t':Nat}(I:Inv X pins σ H s) (mu:Mut (H x)) (he:e=x\/H e=some (.own x)) (k:∀b u,b≠e->s.heap.get? b=some u->h'.get? b=some u) (heo:∃u,h'.get? e=some u)
  (new:qi X.prog X.w (upd H x o) h' x o):Inv X pins σ (upd H x o) { s with heap:=h',toks:=t' }:=I.un (Un.write mu he k heo) (I.hok.write mu he k heo new)
theorem Inv.pins_of {pins':List (Addr×Obj)}(I:Inv X pins σ H s) (h:∀p∈pins',s.heap.get? p.1=some p.2/\H p.1=none/\p.1≠X.env.locals/\p.1∉X.fs/\∀v,p.2.data≠.cell v):Inv X pins' σ H s :=
 ⟨I.ok,I.os,I.bare,I.base,I.loc,I.cell,I.free,I.freeC,λp hp=>(List.mem_append.mp hp).elim (λz=>I.pin p (ie _ z)) (h p),I.hok,I.len⟩
theorem Xc {N:List Str}(hN:N.Nodup) {i j:Nat}{x:Str}(a:N[i]? = some x) (b:N[j]? = some x):i=j:=by
 obtain ⟨h1,e1⟩:=List.getElem?_eq_some_iff.mp a
 obtain ⟨h2,e2⟩:=List.getElem?_eq_some_iff.mp b
 exact (List.getElem_inj hN).mp (e1.trans e2.symm)
theorem Jh {M:t6}{A:bj}{E:ag->Shared->Prop}{i:Nat}{x:Str}{v:V}{u:ag}{Q:Unit->Shared->Prop}(I:Inv X pins σ H s) (hN:X.N.Nodup) (hi:X.N[i]? = some x) (hx:Loc X.env.scope x) (r:jE v u)
  (h:∀s',Inv X pins (σ.set i (some v)) H s'->(∃a,dY a s.heap s'.heap/\(a=X.env.locals\/X.env.cells.lookup x=some a))->Q () s') (hf:X.fn x=true\/X.env.scope.names.lookup x=some .local:=by first | exact .inl rfl | exact .inr rfl | assumption):ay M A (sD X.env x u) Q E s:=by
 obtain ⟨m,hn,hl⟩:=id I.loc
 have hcls:(X.env.scope.kind == .class || (X.env.scope.kind == .module && X.env.locals != X.env.globals))=false:=by rw [I.ok.kind];rfl
 have hiσ:i<σ.length:=by rw [I.len];exact (List.getElem?_eq_some_iff.mp hi).1
 have cne:=I.cne
 have tracked:∀{a:Addr} {h':Heap},(∃o,s.heap.get? a=some o/\H a=none)->dY a s.heap h'->HOk X.prog X.w H h':=λ{a h'} ha hs b ob e=>by
  obtain ⟨_,_,hfree⟩:=ha
  refine (I.hok b ob e).stay (λc w' hc q=>(hs.2 c ?_).trans q) (λ_ q=>q) λ_ _ q=>q
  rintro rfl
  rcases hc with rfl | hc
  ·rw [hfree] at e;cases e
  ·rw [hfree] at hc;cases hc
 rcases hx with hk | hk
 ·refine wpAny_storeName_local hk hn (λh' hn' hs=>?_) hcls
  obtain ⟨oL,_,_,hoL,_⟩:=id hn
  refine h _ ⟨I.ok,I.os,I.bare,⟨λb o e n hb hx=>?_,λb o e n hb hx=>?_,I.base.free,λb o e hx=>?_,I.base.tups,I.base.frzs,I.base.tbls⟩,⟨_,hn',λj y v' e1 e2 e3=>?_⟩,λy c e=>?_,I.free,I.freeC,λp hp=>?_,tracked ⟨oL,hoL,I.free⟩ hs,by simpa using I.len⟩ ⟨_,hs,.inl rfl⟩
  ·exact (hs.2 b (aA (aQ (aw e) I.ok.above))).trans (I.base.keep b o e n hb hx)
  ·obtain ⟨sl,e1⟩:=I.base.slot b o e n hb hx
   exact ⟨sl,(hs.2 b (aA (aQ (aw e) I.ok.above))).trans e1⟩
  ·obtain ⟨o',e1⟩:=I.base.there b o e hx
   exact ⟨o',(hs.2 b (aA (aQ (aw e) I.ok.above))).trans e1⟩
  ·by_cases hj:j=i
   ·subst hj
    rw [hi] at e1;cases e1
    rw [lS hiσ] at e2
    cases e2
    exact ⟨u,r,.inl ⟨hk,by simp⟩⟩
   ·rw [mD (cj hj)] at e2
    obtain ⟨u',r',q⟩:=hl j y v' e1 e2 e3
    refine ⟨u',r',?_⟩
    rcases q with ⟨k,e⟩ | ⟨k,c,e,z⟩
    ·refine .inl ⟨k,?_⟩
     have:y≠x:=λe=>hj (Xc hN e1 (e ▸ hi))
     simp [this,e]
    ·exact .inr ⟨k,c,e,z.sameBut hs (cne y c e)⟩
  ·obtain ⟨w',z⟩:=I.cell y c e
   exact ⟨w',z.sameBut hs (cne y c e)⟩
  ·obtain ⟨e,n,ne,nf,d⟩:=I.pin p hp
   exact ⟨(hs.2 p.1 ne).trans e,n,ne,nf,d⟩
 ·have hfn:X.fn x=true:=by
   rcases hf with z | z
   ·exact z
   ·rw [z] at hk;cases hk
  obtain ⟨c,hc⟩:=I.ok.has x (.inl hk)
  obtain ⟨w',z⟩:=I.cell x c hc
  refine wpAny_storeName_cell I.ok.kind hk hc z (λh' hc' hs=>?_)
  obtain ⟨oc,hoc,hocd⟩:=id z
  refine h { s with heap:=h' } ⟨I.ok,I.os,I.bare,⟨λb o e n hb hx=>?_,λb o e n hb hx=>?_,I.base.free,λb o e hx=>?_,I.base.tups,I.base.frzs,I.base.tbls⟩,⟨m,hn.sameBut hs (cj (cne x c hc)),λj y v' e1 e2 e3=>?_⟩,λy c' e=>?_,I.free,I.freeC,λp hp=>?_,tracked ⟨oc,hoc,I.freeC x c hc⟩ hs,by simpa using I.len⟩ ⟨c,hs,.inr hc⟩
  ·exact (hs.2 b (aA (aQ (aw e) (I.ok.cab x c hfn hc)))).trans (I.base.keep b o e n hb hx)
  ·obtain ⟨sl,e1⟩:=I.base.slot b o e n hb hx
   exact ⟨sl,(hs.2 b (aA (aQ (aw e) (I.ok.cab x c hfn hc)))).trans e1⟩
  ·obtain ⟨o',e1⟩:=I.base.there b o e hx
   exact ⟨o',(hs.2 b (aA (aQ (aw e) (I.ok.cab x c hfn hc)))).trans e1⟩
  ·by_cases hj:j=i
   ·subst hj
    rw [hi] at e1;cases e1
    rw [lS hiσ] at e2
    cases e2
    exact ⟨u,r,.inr ⟨.inl hk,c,hc,hc'⟩⟩
   ·rw [mD (cj hj)] at e2
    obtain ⟨u',r',q⟩:=hl j y v' e1 e2 e3
    refine ⟨u',r',?_⟩
    rcases q with q | ⟨k,c',e,z'⟩
    ·exact .inl q
    ·refine .inr ⟨k,c',e,z'.sameBut hs ?_⟩
     rintro rfl
     exact hj (Xc hN e1 (I.ok.inj _ _ _ e hc ▸ hi))
  ·by_cases hcc:c'=c
   ·subst hcc;exact ⟨_,hc'⟩
   ·obtain ⟨w2,z2⟩:=I.cell y c' e
    exact ⟨w2,z2.sameBut hs hcc⟩
  ·obtain ⟨e,n,ne,nf,d⟩:=I.pin p hp
   refine ⟨(hs.2 p.1 ?_).trans e,n,ne,nf,d⟩
   intro q
   rw [q,hoc] at e
   have q':oc=p.2:=aR e
   exact d w' (by rw [<- q'];exact hocd)
theorem kR {M:t6}{A:bj}{E:ag->Shared->Prop}{i:Nat}{x:Str}{v:V}{u:ag}{Q:Unit->Shared->Prop}(I:Inv X pins σ H s) (hN:X.N.Nodup) (hi:X.N[i]? = some x) (hx:Loc X.env.scope x) (r:jE v u)
  (h:∀s',Inv X pins (σ.set i (some v)) H s'->Q () s') (hf:X.fn x=true\/X.env.scope.names.lookup x=some .local:=by first | exact .inl rfl | exact .inr rfl | assumption):ay M A (sD X.env x u) Q E s :=
 Jh I hN hi hx r (λs' I' _=>h s' I') hf
theorem Inv.call' {s':Shared}{ch:List Addr}(I:Inv X pins σ H s) (ho:s'.os=s.os) (u:Un (frs X.stack) ch H H' s.heap s'.heap) (hok:HOk X.prog X.w H' s'.heap) (hg:i9 s'.gens)
  (hch:∀b∈ch,(b∈X.ex\/X.s₀.heap.objs.size<=b)/\b≠X.env.locals/\(∀x c,X.env.cells.lookup x=some c->c≠b)/\∀p∈X.pn++pins,p.1≠b):Inv X pins σ H' s':=by
 obtain ⟨h',g',d',t',o'⟩:=s'
 have e:o'=s.os:=ho
 subst e
 exact I.call (g':=g') (t':=t') (d':=d') u hok hg hch
end
noncomputable abbrev XK:=ag->Option Addr->Hp->Prop
noncomputable abbrev St:=List (Option V)
noncomputable abbrev VK:=V->Hp->Prop
noncomputable abbrev TE:=St->Hp->VK->Prop
noncomputable abbrev TT:=St->Hp->(Bool->Hp->Prop)->Prop
noncomputable abbrev TA:=St->Hp->(List V->Hp->Prop)->Prop
structure Ends where
 nx:St->Hp->Prop
 rt:VK
 bk:St->Hp->Prop:=λ_ _=>False
 ct:St->Hp->Prop:=λ_ _=>False
noncomputable abbrev TS:=Ends->St->Hp->Prop
noncomputable def EP (X:Cx) (pins:List (Addr×Obj)) (σ:St) (Q:VK) (u:ag) (s':Shared):Prop:=∃v H',Inv X pins σ H' s'/\jE v u/\Q v H'
noncomputable def TP (X:Cx) (pins:List (Addr×Obj)) (σ:St) (Q:Bool->Hp->Prop) (b:Bool) (s':Shared):Prop:=∃H',Inv X pins σ H' s'/\Q b H'
noncomputable def AP (X:Cx) (pins:List (Addr×Obj)) (σ:St) (Q:List V->Hp->Prop) (us:List ag) (s':Shared):Prop:=∃vs H',Inv X pins σ H' s'/\jC vs us/\Q vs H'
noncomputable def SP (X:Cx) (pins:List (Addr×Obj)) (D:Ends) (f:Flow) (s':Shared):Prop :=
 match f with
 | .next=>∃σ' H',Inv X pins σ' H' s'/\D.nx σ' H'
 | .brk=>∃σ' H',Inv X pins σ' H' s'/\D.bk σ' H'
 | .cont=>∃σ' H',Inv X pins σ' H' s'/\D.ct σ' H'
 | .ret u=>∃v σ' H',Inv X pins σ' H' s'/\jE v u/\D.rt v H'
noncomputable def PE (X:Cx) (e:Expr) (t:TE):Prop :=
 ∀(pins:List (Addr×Obj)) (s:Shared) (σ:St) (H:Hp) (Q:VK),Inv X pins σ H s->t σ H Q->ay (aD X.prog X.w) X.A (eval e X.env) (EP X pins σ Q) X.xe s
noncomputable def PT (X:Cx) (e:Expr) (t:TT):Prop :=
 ∀(pins:List (Addr×Obj)) (s:Shared) (σ:St) (H:Hp) (Q:Bool->Hp->Prop),Inv X pins σ H s->t σ H Q->ay (aD X.prog X.w) X.A (isTrue e X.env (eval e X.env)) (TP X pins σ Q) X.xe s
noncomputable def PW (X:Cx) (e:Expr) (t:TT):Prop :=
 ∀(whole:Sem ag) (pins:List (Addr×Obj)) (s:Shared) (σ:St) (H:Hp) (Q:Bool->Hp->Prop),Inv X pins σ H s->t σ H Q->ay (aD X.prog X.w) X.A (isTrue e X.env whole) (TP X pins σ Q) X.xe s
theorem PW.pt {X:Cx}{e:Expr}{t:TT}(h:PW X e t):PT X e t:=h _
noncomputable def PA (X:Cx) (es:List Expr) (t:TA):Prop :=
 ∀(pos:Pos) (pins:List (Addr×Obj)) (s:Shared) (σ:St) (H:Hp) (Q:List V->Hp->Prop),Inv X pins σ H s->t σ H Q->ay (aD X.prog X.w) X.A (spliced (cH pos (aO es X.env))) (AP X pins σ Q) X.xe s
noncomputable def PS (X:Cx) (st:Stmt) (t:TS):Prop :=
 ∀(pins:List (Addr×Obj)) (s:Shared) (σ:St) (H:Hp) (D:Ends),Inv X pins σ H s->t D σ H->ay (aD X.prog X.w) X.A (exec st X.env) (SP X pins D) X.xe s
noncomputable def PSs (X:Cx) (st:List Stmt) (t:TS):Prop :=
 ∀(pins:List (Addr×Obj)) (s:Shared) (σ:St) (H:Hp) (D:Ends),Inv X pins σ H s->t D σ H->ay (aD X.prog X.w) X.A (execs st X.env) (SP X pins D) X.xe s
theorem thn {α:Type}{t:Sem α}{Q Q':α->Shared->Prop}{M:t6}{A:bj}{E:ag->Shared->Prop}{s:Shared}(h:ay M A t Q E s) (hQ:∀a s,Q a s->Q' a s):ay M A t Q' E s:=ba h hQ λ_ _ x=>x
end L2
namespace L2
section
variable {X:Cx}
theorem bin {a b:Expr}{ta tb:TE}(ha:PE X a ta) (hb:PE X b tb) {pins:List (Addr×Obj)}{s:Shared}{σ:St}{H:Hp}{R:V->V->Hp->Prop}(I:Inv X pins σ H s) (h:ta σ H λx H1=>tb σ H1 λy H2=>R x y H2)
  {α:Type} {Q:α->Shared->Prop} {f:ag->ag->Sem α}
  (hf:∀v u s2 x y H2,Inv X pins σ H2 s2->jE x v->jE y u->R x y H2->ay (aD X.prog X.w) X.A (f v u) Q X.xe s2) :
  ay (aD X.prog X.w) X.A (eval a X.env) (λv s₁=>ay (aD X.prog X.w) X.A (eval b X.env) (λu s₂=>ay (aD X.prog X.w) X.A (f v u) Q X.xe s₂) X.xe s₁) X.xe s:=by
 refine thn (ha pins s σ H _ I h) λv s1 ⟨x,H1,I1,r1,q1⟩=>?_
 refine thn (hb pins s1 σ H1 _ I1 q1) λu s2 ⟨y,H2,I2,r2,q2⟩=>?_
 exact hf v u s2 x y H2 I2 r1 r2 q2
noncomputable def Zd (i:Nat):TE:=λσ H Q=>∃v,σ[i]? = some (some v)/\Q v H
noncomputable def tC (v:V):TE:=λ_ H Q=>Q v H
theorem Wr {i:Nat}{x:Str}{pos:Pos}(hN:X.N[i]? = some x) (hv:Vis X.env.scope x) (hd:(x == ("__debug__" : Str))=false:=by decide) (hcd:(x == ("__classdict__" : Str))=false:=by decide):PE X (.Name x pos) (Zd i):=by
 intro pins s σ H Q I h
 obtain ⟨v,e,h⟩:=h
 obtain ⟨m,hn,hl⟩:=I.loc
 obtain ⟨u,r,l⟩:=hl i x v hN e hv
 have fin:EP X pins σ Q u s:=⟨v,H,I,r,h⟩
 rcases l with ⟨hk,hm⟩ | ⟨hk,c,hc,hcell⟩
 ·exact rm (mE I.ok.kind hk hn hm fin) hd
 ·rcases hk with hk | hk
  ·exact rm (ni I.ok.kind hk hc hcell fin) hd
  ·exact rm (wpAny_loadName_free I.ok.kind hk hc hcell fin hcd) hd
theorem j7 {i j pos}:PE X (.Constant (.int i) j pos) (tC (.int i)):=λ_ _ _ H _ I h=>wpAny_Constant_int ⟨.int i,H,I.tok _,⟨_,rfl⟩,h⟩
theorem wV {b j pos}:PE X (.Constant (.bool b) j pos) (tC (.bl b)):=λ_ _ _ H _ I h=>Constant_bool ⟨.bl b,H,I,rfl,h⟩
theorem JA {j pos}:PE X (.Constant .none j pos) (tC .non):=λ_ _ _ H _ I h=>Constant_none ⟨.non,H,I,rfl,h⟩
theorem jF {x j pos}:PE X (.Constant (.str x) j pos) (tC (.str x)):=λ_ _ _ H _ I h=>Calls.Constant_str ⟨.str x,H,I.tok _,⟨_,rfl⟩,h⟩
noncomputable def Gl (X:Cx) (x:Str):Prop:=X.env.kindOf x=some .globalImplicit
theorem uc {E:ag->Shared->Prop}{pins:List (Addr×Obj)}{s:Shared}{σ:St}{H:Hp}{x:Str}{u:ag}{pos:Pos}{Q:ag->Shared->Prop}(I:Inv X pins σ H s) (hg:Gl X x) (hm:X.mg x=some u) (h:Q u s)
  (hd:(x == ("__debug__" : Str))=false:=by decide):ay (aD X.prog X.w) X.A (eval (.Name x pos) X.env) Q E s :=
 iM I.ok.kind hg (Calls.loadGlobal_global (by rw [I.ok.glob];exact I.mod.glob.keeps I.bk) hm h) hd
theorem yq {E:ag->Shared->Prop}{pins:List (Addr×Obj)}{s:Shared}{σ:St}{H:Hp}{x:Str}{u:ag}{pos:Pos}{Q:ag->Shared->Prop}(I:Inv X pins σ H s) (hg:Gl X x) (hm:X.mg x=none) (hv:fF x=some u) (h:Q u s)
  (hn:x ≠ "__name__":=by decide) (hd:(x == ("__debug__" : Str))=false:=by decide):ay (aD X.prog X.w) X.A (eval (.Name x pos) X.env) Q E s:=by
 obtain ⟨mb,h1,h2⟩:=I.mod.blt
 exact iM I.ok.kind hg (Calls.loadGlobal_builtin (by rw [I.ok.glob];exact I.mod.glob.keeps I.bk) hm (by rw [I.ok.blt];exact h1.keeps I.bk) ((h2 x hn).trans hv) h) hd
theorem xl {x:Str}{v:V}{u:ag}{pos:Pos}(hg:Gl X x) (hm:X.mg x=some u) (r:jE v u) (hd:(x == ("__debug__" : Str))=false:=by decide):PE X (.Name x pos) (tC v) :=
 λ_ _ _ H _ I h=>uc I hg hm ⟨v,H,I,r,h⟩ hd
theorem xz {x:Str}{v:V}{u:ag}{pos:Pos}(hg:Gl X x) (hm:X.mg x=none) (hv:fF x=some u) (r:jE v u) (hn:x ≠ "__name__":=by decide) (hd:(x == ("__debug__" : Str))=false:=by decide):PE X (.Name x pos) (tC v) :=
 λ_ _ _ H _ I h=>yq I hg hm hv ⟨v,H,I,r,h⟩ hn hd
variable {a b:Expr}{ta tb:TE}{pos:Pos}
noncomputable def PC (X:Cx) (op:rn) (a b:Expr) (t:TE):Prop :=
 ∀(pins:List (Addr×Obj)) (s:Shared) (σ:St) (H:Hp) (Q:VK),Inv X pins σ H s->t σ H Q ->
  ay (aD X.prog X.w) X.A (eval a X.env) (λv s₁=>ay (aD X.prog X.w) X.A (eval b X.env) (λu s₂=>ay (aD X.prog X.w) X.A (cf op v u) (EP X pins σ Q) X.xe s₂) X.xe s₁) X.xe s
theorem VC (b:Expr) {op:rn}(h:op≠.In) (h2:op≠.NotIn):eI op b=false:=by
 have e1:(op == CmpOp.In)=false:=by cases op <;> first | rfl | exact absurd rfl h
 have e2:(op == CmpOp.NotIn)=false:=by cases op <;> first | rfl | exact absurd rfl h2
 cases b <;> simp [eI,e1,e2]
noncomputable def tB (t:TE):TT:=λσ H Q=>t σ H λx H1=>∃c,x = .bl c/\Q c H1
theorem VO {op:rn}{t:TE}(h:PC X op a b t) (h1:eI op b=false:=by first | exact VC _ ⋯ ⋯ | rfl):PT X (.Compare a [op] [b] pos) (tB t):=by
 intro pins s σ H Q I hw
 refine mr (thn (h pins s σ H _ I hw) λv s1 h1=>thn h1 λu s2 h2=>thn h2 λc s3 ⟨x,H1,I1,r1,q1⟩=>?_) h1
 obtain ⟨d,rfl,q⟩:=q1
 cases r1
 exact bO ⟨H1,I1,q⟩
theorem zT {e:Expr}{t:TE}(h:PE X e t) (he:∀whole,isTrue e X.env whole=(do let v <- whole;eY e.pos;dG [v] (sZ v)):=by intro _;rfl):PT X e (tB t):=by
 intro pins s σ H Q I hw
 refine isTrue_plain (thn (h pins s σ H _ I hw) λv s1 ⟨x,H1,I1,r1,q1⟩=>?_) (he _)
 obtain ⟨d,rfl,q⟩:=q1
 cases r1
 exact bO ⟨H1,I1,q⟩
variable {tA tB':TT}{zA:List Expr}
noncomputable def tAnd (t u:TT):TT:=λσ H Q=>t σ H λc H1=>if c=true then u σ H1 Q else Q false H1
noncomputable def tOr (t u:TT):TT:=λσ H Q=>t σ H λc H1=>if c=true then Q true H1 else u σ H1 Q
noncomputable def tNot (t:TT):TT:=λσ H Q=>t σ H λc H1=>Q (!c) H1
theorem JW (ha:PT X a tA):PW X (.BoolOp .And [a] pos) tA:=by
 intro wh pins s σ H Q I h
 refine isTrue_and (thn (ha pins s σ H Q I h) λc s1 e=>?_)
 cases c with
 | true=>exact isTrue_and_nil e
 | false=>exact e
theorem YX (ha:PT X a tA):PW X (.BoolOp .Or [a] pos) tA:=by
 intro wh pins s σ H Q I h
 refine isTrue_or (thn (ha pins s σ H Q I h) λc s1 e=>?_)
 cases c with
 | false=>exact isTrue_or_nil e
 | true=>exact e
theorem JQ (ha:PT X a tA) (hb:PW X (.BoolOp .And (b::zA) pos) tB'):PW X (.BoolOp .And (a::b::zA) pos) (tAnd tA tB'):=by
 intro wh pins s σ H Q I h
 refine isTrue_and (thn (ha pins s σ H _ I h) λc s1 ⟨H1,I1,q1⟩=>?_)
 cases c with
 | true=>exact hb wh pins s1 σ H1 Q I1 q1
 | false=>exact ⟨H1,I1,q1⟩
theorem W1 (ha:PT X a tA) (hb:PW X (.BoolOp .Or (b::zA) pos) tB'):PW X (.BoolOp .Or (a::b::zA) pos) (tOr tA tB'):=by
 intro wh pins s σ H Q I h
 refine isTrue_or (thn (ha pins s σ H _ I h) λc s1 ⟨H1,I1,q1⟩=>?_)
 cases c with
 | true=>exact ⟨H1,I1,q1⟩
 | false=>exact hb wh pins s1 σ H1 Q I1 q1
theorem xo (ha:PT X a tA):PT X (.UnaryOp .Not a pos) (tNot tA):=by
 intro pins s σ H Q I h
 exact isTrue_not (ha pins s σ H (λc H1=>Q (!c) H1) I h)
noncomputable def GO (ta tb:TE):TE:=λσ H Q=>ta σ H λx H1=>∃c,x = .bl c/\if c=true then tb σ H1 Q else Q (.bl false) H1
noncomputable def GK (ta:TE):TE:=λσ H Q=>ta σ H λx H1=>∃c,x = .bl c/\Q (.bl (!c)) H1
theorem yY {op}{t:TE}(h:PE X a t):PE X (.BoolOp op [a] pos) t:=λpins s σ H Q I hw=>BoolOp_one (h pins s σ H Q I hw)
theorem yp (ha:PE X a ta) (hb:PE X (.BoolOp .And (b::zA) pos) tb):PE X (.BoolOp .And (a::b::zA) pos) (GO ta tb):=by
 intro pins s σ H Q I h
 refine BoolOp_and (thn (ha pins s σ H _ I h) λv s1 ⟨x,H1,I1,r1,q1⟩=>?_)
 obtain ⟨c,rfl,q1⟩:=q1
 cases r1
 refine bO ?_
 cases c with
 | true=>exact hb pins s1 σ H1 Q I1 q1
 | false=>exact ⟨.bl false,H1,I1,rfl,q1⟩
theorem G3 (ha:PE X a ta):PE X (.UnaryOp .Not a pos) (GK ta):=by
 intro pins s σ H Q I h
 refine UnaryOp_ (thn (ha pins s σ H _ I h) λv s1 ⟨x,H1,I1,r1,q1⟩=>?_)
 obtain ⟨c,rfl,q1⟩:=q1
 cases r1
 exact not_of (bO ⟨.bl (!c),H1,I1,rfl,q1⟩)
noncomputable def tIf (t:TT) (ta tb:TE):TE:=λσ H Q=>t σ H λc H1=>if c=true then ta σ H1 Q else tb σ H1 Q
theorem V0 {c:Expr}(hc:PT X c tA) (ha:PE X a ta) (hb:PE X b tb):PE X (.IfExp c a b pos) (tIf tA ta tb):=by
 intro pins s σ H Q I h
 refine wpAny_IfExp (thn (hc pins s σ H _ I h) λd s1 ⟨H1,I1,q1⟩=>?_)
 cases d with
 | true=>exact ha pins s1 σ H1 Q I1 q1
 | false=>exact hb pins s1 σ H1 Q I1 q1
end
end L2
namespace L2
noncomputable def SqL (K:ah) (H:Hp) (a:Addr) (xs:List V):Prop :=
 Rd H a (.lst xs) \/
  ∃(o:Obj) (its:Array ag) (n:Nat),K.lookup a=some o/\o.cls = .type "list" /\ o.dict=none/\o.data = .seq its n/\its.size<=sizeLine/\jC xs its.toList
noncomputable def SqT (K:ah) (H:Hp) (a:Addr) (xs:List V):Prop :=
 Rd H a (.tup xs) \/
  ∃(o:Obj) (its:Array ag) (n:Nat),K.lookup a=some o/\o.cls = .type "tuple" /\ o.data = .seq its n/\its.size<=sizeLine/\jC xs its.toList
noncomputable def absV:ag->Option V
 | .none=>some .non
 | .bool b=>some (.bl b)
 | .int i _=>some (.int i)
 | .str x _=>some (.str x)
 | .bytes b _=>some (.byt b)
 | .float b _=>some (.flt b)
 | .ref a=>some (.ref a)
 | .type n=>some (.ty n)
 | _=>none
theorem jE.abs {x:V}{u:ag}(r:jE x u):absV u=some x:=by
 cases x with
 | non=>cases r;rfl
 | bl _=>cases r;rfl
 | int _=>obtain ⟨t,rfl⟩:=r;rfl
 | str _=>obtain ⟨t,rfl⟩:=r;rfl
 | byt _=>obtain ⟨t,rfl⟩:=r;rfl
 | flt _=>obtain ⟨t,rfl⟩:=r;rfl
 | ref _=>cases r;rfl
 | ty _=>cases r;rfl
theorem jE.inj {x y:V}{u:ag}(r:jE x u) (q:jE y u):x=y:=aR (r.abs.symm.trans q.abs)
theorem jC.inj:∀{xs ys:List V}{us:List ag},jC xs us->jC ys us->xs=ys
 | _,_,_,.nil,.nil=>rfl
 | _,_,_,.cons r t,.cons r' t'=>by rw [r.inj r',jC.inj t t']
section
variable {X:Cx}{pins:List (Addr×Obj)}{σ:St}{H:Hp}{s:Shared}{a:Addr}{xs ys:List V}
theorem SqL.of {K:ah}(h:H a=some (.lst xs)):SqL K H a xs:=.inl (.inl h)
theorem SqT.of {K:ah}(h:H a=some (.tup xs)):SqT K H a xs:=.inl (.inl h)
theorem Inv.list (I:Inv X pins σ H s) (h:SqL X.K H a xs):∃its:List ag,jC xs its/\PlainL s.heap a its.toArray/\xs.length<=sizeLine:=by
 rcases h with h | ⟨o,its,n,hk,hc,hd,hs,hz,r⟩
 ·obtain ⟨z,its,n,r,e⟩:=h.ok I.hok
  exact ⟨its,r,⟨_,n,e,rfl,rfl,rfl⟩,z⟩
 ·refine ⟨its.toList,r,⟨o,n,I.kIn a o hk,hc,hd,by simpa using hs⟩,?_⟩
  have e:=r.length
  simp only [cF] at e
  omega
theorem Inv.tuple (I:Inv X pins σ H s) (h:SqT X.K H a xs):∃its:List ag,jC xs its/\IsTup s.heap a its.toArray/\xs.length<=sizeLine:=by
 rcases h with h | ⟨o,its,n,hk,hc,hs,hz,r⟩
 ·obtain ⟨z,its,r,p⟩:=h.ok I.hok
  exact ⟨its,r,p,z⟩
 ·refine ⟨its.toList,r,⟨o,I.kIn a o hk,hc,n,by simpa using hs⟩,?_⟩
  have e:=r.length
  simp only [cF] at e
  omega
theorem Inv.list_inj (I:Inv X pins σ H s) (h:SqL X.K H a xs) (h':SqL X.K H a ys):xs=ys:=by
 obtain ⟨its,r,⟨o,n,e,_,_,d⟩,_⟩:=I.list h
 obtain ⟨its',r',⟨o',n',e',_,_,d'⟩,_⟩:=I.list h'
 rw [e] at e';cases e'
 rw [d] at d'
 injection d' with d1 _
 have:its=its':=by simpa using congrArg Array.toList d1
 subst this
 exact r.inj r'
theorem Inv.tuple_inj (I:Inv X pins σ H s) (h:SqT X.K H a xs) (h':SqT X.K H a ys):xs=ys:=by
 obtain ⟨its,r,⟨o,e,_,n,d⟩,_⟩:=I.tuple h
 obtain ⟨its',r',⟨o',e',_,n',d'⟩,_⟩:=I.tuple h'
 rw [e] at e';cases e'
 rw [d] at d'
 injection d' with d1 _
 have:its=its':=by simpa using congrArg Array.toList d1
 subst this
 exact r.inj r'
end
noncomputable abbrev Cx.wish (X:Cx) (E:ag->Shared->Prop):Cx:={ X with xe:=E }
noncomputable abbrev Cx.nox (X:Cx):Cx:=X.wish λ_ _=>False
theorem Cx.Ok.wish {X:Cx}(ok:X.Ok) (E:ag->Shared->Prop):(X.wish E).Ok :=
 ⟨ok.mod,ok.kind,ok.glob,ok.blt,ok.above,ok.inj,ok.has,ok.cab,ok.hd,ok.frames,ok.stk,ok.exf,ok.bs,ok.bsz,ok.noex,ok.exfs,ok.funs,ok.frf⟩
theorem Cx.Ok.unwish {X:Cx}{E:ag->Shared->Prop}(ok:(X.wish E).Ok):X.Ok :=
 ⟨ok.mod,ok.kind,ok.glob,ok.blt,ok.above,ok.inj,ok.has,ok.cab,ok.hd,ok.frames,ok.stk,ok.exf,ok.bs,ok.bsz,ok.noex,ok.exfs,ok.funs,ok.frf⟩
section
variable {X:Cx}{pins:List (Addr×Obj)}{σ:St}{H:Hp}{s:Shared}{E:ag->Shared->Prop}
theorem Inv.wish (I:Inv X pins σ H s) (E:ag->Shared->Prop):Inv (X.wish E) pins σ H s:=⟨I.ok.wish E,I.os,I.bare,I.base,I.loc,I.cell,I.free,I.freeC,I.pin,I.hok,I.len⟩
theorem Inv.unwish (I:Inv (X.wish E) pins σ H s):Inv X pins σ H s:=⟨I.ok.unwish,I.os,I.bare,I.base,I.loc,I.cell,I.free,I.freeC,I.pin,I.hok,I.len⟩
theorem SP.unwish {D:Ends}{f:Flow}{s':Shared}(h:SP (X.wish E) pins D f s'):SP X pins D f s':=by
 cases f with
 | next=>obtain ⟨σ',H',I,q⟩:=h;exact ⟨σ',H',I.unwish,q⟩
 | brk=>obtain ⟨σ',H',I,q⟩:=h;exact ⟨σ',H',I.unwish,q⟩
 | cont=>obtain ⟨σ',H',I,q⟩:=h;exact ⟨σ',H',I.unwish,q⟩
 | ret u=>obtain ⟨v,σ',H',I,r,q⟩:=h;exact ⟨v,σ',H',I.unwish,r,q⟩
theorem PE.nox {e:Expr}{t:TE}(h:PE X.nox e t):PE X e t:=λpins s σ H Q I hw =>
 ba (h pins s σ H Q (I.wish _) hw) (λ_ _ ⟨v,H',I',r,q⟩=>⟨v,H',I'.unwish,r,q⟩) λ_ _ z=>bC z
theorem PSs.nox {st:List Stmt}{t:TS}(h:PSs X.nox st t):PSs X st t:=λpins s σ H D I hw =>
 ba (h pins s σ H D (I.wish _) hw) (λ_ _ q=>q.unwish) λ_ _ z=>bC z
end
section
variable {X:Cx}{st:Stmt}{zA:List Stmt}{t u:TS}{e:Expr}{te:TE}{pos:Pos}
noncomputable def GP:TS:=λD σ H=>D.nx σ H
noncomputable def tSeq (t u:TS):TS:=λD σ H=>t { D with nx:=u D } σ H
theorem jw:PSs X [] GP:=λ_ _ σ H _ I h=>il ⟨σ,H,I,h⟩
theorem j4 (h1:PS X st t) (h2:PSs X zA u):PSs X (st::zA) (tSeq t u):=by
 intro pins s σ H D I h
 refine lI (thn (h1 pins s σ H { D with nx:=u D } I h) λf s1 q=>?_)
 cases f with
 | next =>
  obtain ⟨σ',H',I',q⟩:=q
  exact h2 pins s1 σ' H' D I' q
 | ret v=>exact q
 | brk=>exact q
 | cont=>exact q
theorem j9 (h1:PS X st t):PSs X [st] t:=by
 intro pins s σ H D I h
 refine lI (thn (h1 pins s σ H D I h) λf s1 q=>?_)
 cases f with
 | next=>exact il q
 | ret v=>exact q
 | brk=>exact q
 | cont=>exact q
noncomputable def Wz:TS:=λD σ H=>D.bk σ H
noncomputable def Ed:TS:=λD σ H=>D.ct σ H
theorem QT:PS X (.Break pos) Wz:=λ_ _ σ H _ I h=>wpAny_Break ⟨σ,H,I,h⟩
theorem QG:PS X (.Continue pos) Ed:=λ_ _ σ H _ I h=>wpAny_Continue ⟨σ,H,I,h⟩
theorem Inv.quiet {pins:List (Addr×Obj)}{σ:St}{H:Hp}{s:Shared}(I:Inv X pins σ H s):interactive X.env=false:=by simp [interactive,I.ok.kind]
noncomputable def Ei (te:TE):TS:=λD σ H=>te σ H λ_ H1=>D.nx σ H1
theorem jM (he:PE X e te) (hs:iK e none pos.line X.env=pure false:=by rfl):PS X (.Expr e pos) (Ei te):=by
 intro pins s σ H D I h
 exact wpAny_Expr_any (thn (he pins s σ H _ I h) λv s1 ⟨x,H1,I1,r1,q1⟩=>⟨σ,H1,I1,q1⟩) I.quiet hs
noncomputable def tRet (te:TE):TS:=λD σ H=>te σ H D.rt
theorem jk (he:PE X e te):PS X (.Return (some e) pos) (tRet te):=by
 intro pins s σ H D I h
 exact wpAny_Return_some (thn (he pins s σ H _ I h) λv s1 ⟨x,H1,I1,r1,q1⟩=>⟨x,σ,H1,I1,r1,q1⟩)
noncomputable def tIfS (c:TT) (t u:TS):TS:=λD σ H=>c σ H λb H1=>if b=true then t D σ H1 else u D σ H1
theorem jU {c:Expr}{a b:List Stmt}{tc:TT}(hc:PT X c tc) (ha:PSs X a t) (hb:PSs X b u):PS X (.If c a b pos) (tIfS tc t u):=by
 intro pins s σ H D I h
 refine wpAny_If (thn (hc pins s σ H _ I h) λd s1 ⟨H1,I1,q1⟩=>?_)
 cases d with
 | true=>exact ha pins s1 σ H1 D I1 q1
 | false=>exact hb pins s1 σ H1 D I1 q1
end
noncomputable abbrev TG:=V->St->Hp->(St->Hp->Prop)->Prop
noncomputable abbrev TGs:=List V->St->Hp->(St->Hp->Prop)->Prop
noncomputable def PG (X:Cx) (target:Expr) (t:TG):Prop :=
 ∀(pins:List (Addr×Obj)) (s:Shared) (σ:St) (H:Hp) (v:V) (u:ag) (Q:St->Hp->Prop),Inv X pins σ H s->jE v u->t v σ H Q ->
  ay (aD X.prog X.w) X.A (ip target X.env u) (λ_ s'=>∃σ' H',Inv X pins σ' H' s'/\Q σ' H') X.xe s
noncomputable def PGs (X:Cx) (ts:List Expr) (t:TGs):Prop :=
 ∀(pins:List (Addr×Obj)) (s:Shared) (σ:St) (H:Hp) (vs:List V) (us:List ag) (Q:St->Hp->Prop),Inv X pins σ H s->jC vs us->t vs σ H Q ->
  ay (aD X.prog X.w) X.A (assignInOrder ((fm ts X.env).map (·.2)) us) (λ_ s'=>∃σ' H',Inv X pins σ' H' s'/\Q σ' H') X.xe s
noncomputable abbrev WG:=V->V->V->Hp->(Hp->Prop)->Prop
noncomputable def Eg (X:Cx) (t:WG):Prop :=
 ∀(pins:List (Addr×Obj)) (s:Shared) (σ:St) (H:Hp) (o i v:V) (ov iv u:ag) (Q:Hp->Prop),Inv X pins σ H s->jE o ov->jE i iv->jE v u->t o i v H Q ->
  ay (aD X.prog X.w) X.A (setItem ov iv u) (λ_ s'=>∃H',Inv X pins σ H' s'/\Q H') X.xe s
noncomputable abbrev TIp:=V->V->Hp->VK->Prop
noncomputable def PIp (X:Cx) (op:sP) (t:TIp):Prop :=
 ∀(pins:List (Addr×Obj)) (s:Shared) (σ:St) (H:Hp) (x y:V) (v u:ag) (Q:VK),Inv X pins σ H s->jE x v->jE y u->t x y H Q ->
  ay (aD X.prog X.w) X.A (inplaceOp op v u) (EP X pins σ Q) X.xe s
section
variable {X:Cx}{pos:Pos}
noncomputable def uh (i:Nat):TG:=λv σ H Q=>Q (σ.set i (some v)) H
theorem jb {i:Nat}{x:Str}(hN:X.N.Nodup) (hi:X.N[i]? = some x) (hx:Loc X.env.scope x) (hf:X.fn x=true\/X.env.scope.names.lookup x=some .local:=by first | exact .inl rfl | exact .inr rfl | assumption):PG X (.Name x pos) (uh i):=by
 intro pins s σ H v u Q I r h
 exact oa (kR I hN hi hx r (λs' I'=>⟨_,H,I',h⟩) hf)
noncomputable def gNil:TGs:=λvs σ H Q=>vs=[]/\Q σ H
noncomputable def Ee (t:TG) (u:TGs):TGs:=λvs σ H Q=>∃v r,vs=v::r/\t v σ H λσ' H'=>u r σ' H' Q
theorem qw:PGs X [] gNil:=by
 intro pins s σ H vs us Q I r h
 obtain ⟨e,h⟩:=h
 subst e
 cases r
 exact assignInOrder_nil ⟨σ,H,I,h⟩
theorem jm {e:Expr}{es:List Expr}{t:TG}{u:TGs}(h1:PG X e t) (h2:PGs X es u)
  (hs:(fm (e::es) X.env).map (·.2)=ip e X.env::(fm es X.env).map (·.2):=by rfl):PGs X (e::es) (Ee t u):=by
 intro pins s σ H vs us Q I r h
 obtain ⟨v,vr,e1,h⟩:=h
 subst e1
 cases r with
 | cons r rr =>
  rw [hs]
  refine assignInOrder_cons (thn (h1 pins s σ H _ _ _ I r h) λ_ s1 ⟨σ1,H1,I1,q1⟩=>?_)
  exact h2 pins s1 σ1 H1 _ _ Q I1 rr q1
noncomputable def E9 (K:ah) (n:Nat) (t:TGs):TG:=λv σ H Q=>∃a xs,v = .ref a/\SqT K H a xs/\xs.length=n/\t xs σ H Q
theorem Wn {es:List Expr}{k:Nat}{t:TGs}{n:Nat}(hc:X.calm=true) (h:PGs X es t)
  (hn:(fm es X.env).length=n:=by rfl) (hst:(fm es X.env).findIdx? (·.1)=none:=by rfl):PG X (.Tuple es k pos) (E9 X.K n t):=by
 intro pins s σ H v u Q I r hw
 obtain ⟨a,xs,e1,hq,hl,hw⟩:=hw
 subst e1
 cases r
 obtain ⟨its,rv,ht,hz⟩:=I.tuple hq
 refine assign_Tuple_tuple (I.ok.hd hc) ht (by simp [hn,<- hl,rv.length]) hst λh' hx=>?_
 have I1:Inv X pins σ H { s with heap:=h' }:=I.kept (t':=s.toks) λb o e=>hx b o (aA (aw e)) e
 exact h pins _ σ H xs _ Q I1 (by simpa using rv) hw
noncomputable def gSub (to ti:TE) (t:WG):TG:=λv σ H Q=>to σ H λo H1=>ti σ H1 λi H2=>t o i v H2 λH3=>Q σ H3
theorem uU {o i:Expr}{to ti:TE}{t:WG}(ho:PE X o to) (hi:PE X i ti) (hs:Eg X t)
  (ha:∀v,ip (.Subscript o i pos) X.env v=(do
   let ov <- dG [v] (eval o X.env)
   let iv <- dG [v,ov] (eval i X.env)
   eY pos
   dG [v,ov,iv] (setItem ov iv v)
   release [v,ov,iv] []):=by intro _;rfl):PG X (.Subscript o i pos) (gSub to ti t):=by
 intro pins s σ H v u Q I r h
 rw [ha]
 refine ae (bP (thn (ho pins s σ H _ I h) λov s1 ⟨x,H1,I1,r1,q1⟩=>?_))
 refine ae (bP (thn (hi pins s1 σ H1 _ I1 q1) λiv s2 ⟨y,H2,I2,r2,q2⟩=>?_))
 refine ae (cY (ae (bP (thn (hs pins s2 σ H2 x y v ov iv u _ I2 r1 r2 r q2) λ_ s3 ⟨H3,I3,q3⟩=>?_))))
 exact wpAny_release ⟨σ,H3,I3,q3⟩
noncomputable def UI (te:TE) (g:TG):TS:=λD σ H=>te σ H λx H1=>g x σ H1 D.nx
theorem xG {tg e:Expr}{te:TE}{g:TG}(he:PE X e te) (hg:PG X tg g) (hs:swapsWithSole [tg] e pos.line X.env=pure false:=by rfl) (hw:swappedStores [tg] e X.env=pure none:=by rfl)
  (h1:(fm [tg] X.env).map (·.2)=[ip tg X.env]:=by rfl):PS X (.Assign [tg] e pos) (UI te g):=by
 intro pins s σ H D I h
 refine wpAny_Assign_stores (thn (he pins s σ H _ I h) λv s1 ⟨x,H1,I1,r1,q1⟩=>?_) hs hw
 rw [h1]
 exact thn (hg pins s1 σ H1 x v _ I1 r1 q1) λ_ s2 q=>q
theorem yW {i:Nat}{x:Str}{e:Expr}{te:TE}{pos':Pos}(hN:X.N.Nodup) (hi:X.N[i]? = some x) (hx:Loc X.env.scope x) (he:PE X e te) (hs:iK e (some (.Name x pos')) pos.line X.env=pure false:=by rfl) (hf:X.fn x=true\/X.env.scope.names.lookup x=some .local:=by first | exact .inl rfl | exact .inr rfl | assumption) :
  PS X (.Assign [.Name x pos'] e pos) (UI te (uh i)):=by
 intro pins s σ H D I h
 refine wpAny_Assign_Name (thn (he pins s σ H _ I h) λv s1 ⟨y,H1,I1,r1,q1⟩=>?_) hs
 exact kR I1 hN hi hx r1 (λs2 I2=>⟨_,H1,I2,q1⟩) hf
theorem jt (i:Nat){x:Str}{e:Expr}{te:TE}{pos':Pos}(hN:X.N.Nodup) (he:PE X e te) (hi:X.N[i]?=some x:=by rfl) (hx:Loc X.env.scope x:=by exact aP rfl) (hs:iK e (some (.Name x pos')) pos.line X.env=pure false:=by rfl) (hf:X.fn x=true\/X.env.scope.names.lookup x=some .local:=by first | exact .inl rfl | exact .inr rfl | assumption):PS X (.Assign [.Name x pos'] e pos) (UI te (uh i)):=yW hN hi hx he hs hf
noncomputable def tAug (i:Nat) (te:TE) (ti:TIp):TS:=λD σ H=>∃x,σ[i]? = some (some x)/\te σ H λy H1=>ti x y H1 λz H2=>D.nx (σ.set i (some z)) H2
theorem XV {i:Nat}{x:Str}{e:Expr}{te:TE}{op:sP}{ti:TIp}{pos':Pos}(hN:X.N.Nodup) (hi:X.N[i]? = some x) (hx:Loc X.env.scope x) (he:PE X e te) (ho:PIp X op ti) (hf:X.fn x=true\/X.env.scope.names.lookup x=some .local:=by first | exact .inl rfl | exact .inr rfl | assumption) :
  PS X (.AugAssign (.Name x pos') op e pos) (tAug i te ti):=by
 intro pins s σ H D I h
 obtain ⟨v,e1,h⟩:=h
 obtain ⟨m,hn,hl⟩:=I.loc
 have vis:Vis X.env.scope x:=by rcases hx with k | k;exact .inl k;exact .inr (.inl k)
 obtain ⟨u,r,l⟩:=hl i x v hi e1 vis
 refine wpAny_AugAssign_Name ?_
 have go:ay (aD X.prog X.w) X.A (eval e X.env) (λw s₂=>ay (aD X.prog X.w) X.A (inplaceOp op u w) (λr s₃=>ay (aD X.prog X.w) X.A (sD X.env x r) (λ_=>SP X pins D .next) X.xe s₃) X.xe s₂) X.xe s:=by
  refine thn (he pins s σ H _ I h) λw s1 ⟨y,H1,I1,r1,q1⟩=>?_
  refine thn (ho pins s1 σ H1 v y u w _ I1 r r1 q1) λz s2 ⟨zv,H2,I2,r2,q2⟩=>?_
  exact kR I2 hN hi hx r2 (λs3 I3=>⟨_,H2,I3,q2⟩) hf
 rcases l with ⟨hk,hm⟩ | ⟨hk,c,hc,hcell⟩
 ·exact mE I.ok.kind hk hn hm go
 ·rcases hk with hk | hk
  ·exact ni I.ok.kind hk hc hcell go
  ·rcases hx with k | k
   ·have:X.env.scope.names.lookup x=some .free:=hk
    rw [k] at this;cases this
   ·have:X.env.scope.names.lookup x=some .free:=hk
    rw [k] at this;cases this
noncomputable def ipI (f:Int->Int->Int):TIp:=λx y H Q=>∃i j,x = .int i/\y = .int j/\Q (.int (f i j)) H
theorem Zh:PIp X .Add (ipI λi j=>i+j):=by
 intro pins s σ H x y v u Q I r1 r2 h
 obtain ⟨i,j,e1,e2,q⟩:=h
 subst e1;subst e2
 obtain ⟨t,rfl⟩:=r1
 obtain ⟨t',rfl⟩:=r2
 exact iadd_int ⟨.int _,H,I.tok _,⟨_,rfl⟩,q⟩
end
section
variable {X:Cx}{pos:Pos}
noncomputable def VT (c:TT) (tb:TS):TS:=λD σ H=>∃W:Nat->St->Hp->Prop,(∃m,W m σ H)/\∀m σ H,W m σ H ->
 c σ H λb H1=>if b=true then ∃N:St->Hp->Prop,(∀σ' H',N σ' H'->∃m',m'<m/\W m' σ' H')/\tb { D with nx:=N,ct:=N,bk:=D.nx } σ H1 else D.nx σ H1
theorem Qx {c:Expr}{body:List Stmt}{tc:TT}{tb:TS}(hp:PassesOwn (aD X.prog X.w) X.A X.env X.xe) (hc:PT X c tc) (hb:PSs X body tb):PS X (.While c body [] pos) (VT tc tb):=by
 intro pins s σ H D I h
 obtain ⟨W,⟨m0,w0⟩,turn⟩:=h
 refine wpAny_While (codeAny_whileLoop (λn s'=>∃σ' H',Inv X pins σ' H' s'/\W n σ' H') ?_ m0 ⟨σ,H,I,w0⟩)
 rintro n s1 ⟨σ1,H1,I1,w1⟩
 refine dr hp (thn (hc pins s1 σ1 H1 _ I1 (turn n σ1 H1 w1)) λb s2 ⟨H2,I2,q2⟩=>?_)
 cases b with
 | true =>
  obtain ⟨N,hN,q2⟩:=q2
  rw [if_pos rfl]
  refine dr hp (thn (hb pins s2 σ1 H2 _ I2 q2) λf s3 q3=>?_)
  cases f with
  | next =>
   obtain ⟨σ3,H3,I3,n3⟩:=q3
   obtain ⟨m',hm,w3⟩:=hN σ3 H3 n3
   exact ⟨m',hm,σ3,H3,I3,w3⟩
  | cont =>
   obtain ⟨σ3,H3,I3,n3⟩:=q3
   obtain ⟨m',hm,w3⟩:=hN σ3 H3 n3
   exact ⟨m',hm,σ3,H3,I3,w3⟩
  | brk=>exact q3
  | ret v=>exact q3
 | false =>
  rw [if_neg au]
  exact il ⟨σ1,H2,I2,q2⟩
end
structure It where
 go:Nat->Hp->Prop
 yld:Nat->Hp->V->Hp->Prop
 stop:Nat->Hp->Prop
noncomputable def uZ (X:Cx) (pins:List (Addr×Obj)) (H:Hp) (b:Addr):Prop :=
 H b=none/\b≠X.env.locals/\b∉X.fs/\(b∈X.ex\/X.s₀.heap.objs.size<=b)/\(∀x c,X.env.cells.lookup x=some c->c≠b)/\∀p∈X.pn++pins,p.1≠b
theorem Inv.fpOk {X:Cx}{pins:List (Addr×Obj)}{σ:St}{H H':Hp}{s:Shared}{b:Addr}(I:Inv X pins σ H s) (hb:s.heap.objs.size<=b) (hn:H' b=none):uZ X pins H' b:=by
 refine ⟨hn,cW (aQ I.lt hb),I.nofs hb,.inr (aF I.sz hb),λx c e z=>?_,λp hp z=>?_⟩
 ·obtain ⟨v,q⟩:=I.cell x c e
  exact absurd (aQ q.lt (by rw [z];exact hb)) (cq _)
 ·exact absurd (aQ (aw (I.pin p hp).1) (by rw [z];exact hb)) (cq _)
structure Turn (P:Program) (w:b9) (K:ah) (tg:Expr) (J:It) (fp:List Addr) (it:Addr) (tn:Nat->Heap->Prop):Prop where
 mem:it∈fp
 obj:∀i h,tn i h->∀b∈fp,∃o,h.get? b=some o/\∀v,o.data≠.cell v
 keep:∀i h h',tn i h->(∀b∈fp,∀o,h.get? b=some o->h'.get? b=some o)->tn i h'
 item:∀(X:Cx),X.prog=P->X.w=w->X.K=K->X.calm=true->∀(i:Nat) (pins:List (Addr×Obj)) (s:Shared) (σ:St) (H:Hp) (E:ag->Shared->Prop),Inv X pins σ H s->(∀b∈fp,uZ X pins H b)->tn i s.heap->J.go i H ->
  ay (aD P w) X.A (fG (.ref it)) (λr s1=>∃u,r=some u /\
   ay (aD P w) X.A (cS tg (.ref it) u) (λ_ s2=>∃x H',Inv X pins σ H' s2/\jE x u/\J.yld i H x H'/\tn (i+1) s2.heap/\∀b∈fp,H' b=none) E s1) E s
 done:∀(X:Cx),X.prog=P->X.w=w->X.K=K->X.calm=true->∀(i:Nat) (pins:List (Addr×Obj)) (s:Shared) (σ:St) (H:Hp) (E:ag->Shared->Prop),Inv X pins σ H s->(∀b∈fp,uZ X pins H b)->tn i s.heap->J.stop i H ->
  ay (aD P w) X.A (fG (.ref it)) (λr s1=>r=none/\Inv X pins σ H s1) E s
 self:∀(A:bj) (i:Nat) (s:Shared) (Q:ag->Shared->Prop) (E:ag->Shared->Prop),tn i s.heap->Q (.ref it) s->ay (aD P w) A (mF (.ref it)) Q E s
noncomputable abbrev TI:=St->Hp->(It->Hp->Prop)->Prop
noncomputable def PIE (X:Cx) (pins:List (Addr×Obj)) (σ:St) (tg:Expr) (R:It->Hp->Prop) (itv:ag) (s2:Shared):Prop :=
 ∃(it:Addr) (fp:List Addr) (tn:Nat->Heap->Prop) (J:It) (H':Hp),itv = .ref it/\Inv X pins σ H' s2/\Turn X.prog X.w X.K tg J fp it tn/\tn 0 s2.heap/\(∀b∈fp,uZ X pins H' b)/\R J H'
noncomputable def PI (X:Cx) (tg iter:Expr) (wi:TI):Prop :=
 ∀(pins:List (Addr×Obj)) (s:Shared) (σ:St) (H:Hp) (R:It->Hp->Prop),Inv X pins σ H s->wi σ H R ->
  ay (aD X.prog X.w) X.A (eval iter X.env) (λv s1=>ay (aD X.prog X.w) X.A (mF v) (PIE X pins σ tg R) X.xe s1) X.xe s
theorem Qj {M:t6}{A:bj}{E:ag->Shared->Prop}{s:Shared}{tg:Expr}{it:Addr}{u:ag}{o:Obj}{n:String}{vs:Array ag}{Q:Unit->Shared->Prop}(ho:s.heap.get? it=some o) (hc:o.cls = .type n) (hd:o.data = .fields vs)
  (hn:["enumerate","zip","dict_itemiterator","dict_reverseitemiterator","odict_iterator","itertools.zip_longest","itertools.pairwise"].contains n=false) (hQ:Q () s):ay M A (cS tg (.ref it) u) Q E s:=by
 unfold cS
 cases tg <;> first
  | exact wpAny_pure hQ
  | (cases u <;> first
    | exact wpAny_pure hQ
    | (refine ae (wpAny_load ho ?_)
       rw [hc,hd]
       show ay M A (if (["enumerate","zip","dict_itemiterator","dict_reverseitemiterator","odict_iterator","itertools.zip_longest","itertools.pairwise"].contains n && vs[0]? == some (bU _))=true then _ else _) Q E s
       rw [if_neg (by intro h;rw [hn,Bool.false_and] at h;cases h)]
       exact wpAny_pure hQ))
noncomputable def Itl (K:ah) (a:Addr):It :=
 ⟨λi H=>∃xs x,SqL K H a xs/\xs[i]? = some x,λi H x H'=>H'=H/\∀xs,SqL K H a xs->xs[i]? = some x,λi H=>∃xs,SqL K H a xs/\xs.length<=i⟩
noncomputable def Itt (K:ah) (a:Addr):It :=
 ⟨λi H=>∃xs x,SqT K H a xs/\xs[i]? = some x,λi H x H'=>H'=H/\∀xs,SqT K H a xs->xs[i]? = some x,λi H=>∃xs,SqT K H a xs/\xs.length<=i⟩
noncomputable def Itr (lo:Int) (n:Nat):It:=⟨λi _=>i<n,λi H x H'=>H'=H/\x = .int (lo+i),λi _=>n<=i⟩
theorem Yb {P:Program}{w:b9}{K:ah}{tg:Expr}(a it:Addr):Turn P w K tg (Itl K a) [it] it (λi h=>h.IsListIter it a i) where
 mem:=by simp
 obj:=λi h st b hb=>by
  have e:b=it:=by simpa using hb
  subst e
  obtain ⟨o,e,c,d⟩:=st
  exact ⟨o,e,λv z=>by rw [d] at z;cases z⟩
 keep:=λi h h' st k=>st.at λo e=>k it (by simp) o e
 item:=by
  intro X hP hw hK hc i pins s σ H E I hf st hg
  subst hP hw hK
  obtain ⟨xs,x,hq,hx⟩:=hg
  obtain ⟨its,rv,p,hz⟩:=I.list hq
  obtain ⟨u,hu,ru⟩:=rv.get hx
  obtain ⟨f0,f1,f2,f3,f4,f5⟩:=hf it (by simp)
  refine fH st p.isList (x:=u) (by simpa using hu) λh' st' sb=>?_
  have I1:Inv X pins σ H { s with heap:=h' }:=I.turned (t':=s.toks) (λb o hb e=>(sb.2 b hb).trans e) f0 f1 f3 f4 f5
  obtain ⟨o,e,c,d⟩:=id st'
  exact ⟨u,rfl,Qj (s:={ s with heap:=h' }) e c d ⋯ ⟨x,H,I1,ru,⟨rfl,λys hy=>by rw [I.list_inj hy hq];exact hx⟩,st',λb hb=>(hf b hb).1⟩⟩
 done:=by
  intro X hP hw hK hc i pins s σ H E I hf st hg
  subst hP hw hK
  obtain ⟨xs,hq,hx⟩:=hg
  obtain ⟨its,rv,p,hz⟩:=I.list hq
  obtain ⟨f0,f1,f2,f3,f4,f5⟩:=hf it (by simp)
  have hl:=rv.length
  exact i0 (I.ok.hd hc) st p.isList (by simp;omega) λh' eb=>⟨rfl,I.turned (t':=s.toks) (λb o hb e=>eb b o hb e) f0 f1 f3 f4 f5⟩
 self:=λ_ _ _ _ _ st h=>wpAny_pyIter_listiter st h
theorem Z0 {P:Program}{w:b9}{K:ah}{tg:Expr}(a it:Addr):Turn P w K tg (Itt K a) [it] it (λi h=>h.IsTupleIter it a i) where
 mem:=by simp
 obj:=λi h st b hb=>by
  have e:b=it:=by simpa using hb
  subst e
  obtain ⟨o,e,c,d⟩:=st
  exact ⟨o,e,λv z=>by rw [d] at z;cases z⟩
 keep:=λi h h' st k=>st.at λo e=>k it (by simp) o e
 item:=by
  intro X hP hw hK hc i pins s σ H E I hf st hg
  subst hP hw hK
  obtain ⟨xs,x,hq,hx⟩:=hg
  obtain ⟨its,rv,p,hz⟩:=I.tuple hq
  obtain ⟨u,hu,ru⟩:=rv.get hx
  obtain ⟨f0,f1,f2,f3,f4,f5⟩:=hf it (by simp)
  refine wpAny_pyNext_tuple_item st (show s.heap.IsTuple a its.toArray from p) (x:=u) (by simpa using hu) λh' st' sb=>?_
  have I1:Inv X pins σ H { s with heap:=h' }:=I.turned (t':=s.toks) (λb o hb e=>(sb.2 b hb).trans e) f0 f1 f3 f4 f5
  obtain ⟨o,e,c,d⟩:=id st'
  exact ⟨u,rfl,Qj (s:={ s with heap:=h' }) e c d ⋯ ⟨x,H,I1,ru,⟨rfl,λys hy=>by rw [I.tuple_inj hy hq];exact hx⟩,st',λb hb=>(hf b hb).1⟩⟩
 done:=by
  intro X hP hw hK hc i pins s σ H E I hf st hg
  subst hP hw hK
  obtain ⟨xs,hq,hx⟩:=hg
  obtain ⟨its,rv,p,hz⟩:=I.tuple hq
  obtain ⟨f0,f1,f2,f3,f4,f5⟩:=hf it (by simp)
  have hl:=rv.length
  exact wpAny_pyNext_tuple_end (I.ok.hd hc) st (show s.heap.IsTuple a its.toArray from p) (by simp;omega) λh' eb=>⟨rfl,I.turned (t':=s.toks) (λb o hb e=>eb b o hb e) f0 f1 f3 f4 f5⟩
 self:=λ_ _ _ _ _ st h=>wpAny_pyIter_tupleiter st h
theorem kQ {P:Program}{w:b9}{K:ah}{tg:Expr}(it:Addr) (lo:Int) (n:Nat):Turn P w K tg (Itr lo n) [it] it (λi h=>pG h it (lo+(i:Nat)*1) ((n:Int)-(i:Nat)) 1) where
 mem:=by simp
 obj:=λi h st b hb=>by
  have e:b=it:=by simpa using hb
  subst e
  exact ⟨_,st,λv z=>by
   have z':mG _=lJ v:=z
   cases z'⟩
 keep:=λi h h' st k=>k it (by simp) _ st
 item:=by
  intro X hP hw hK hc i pins s σ H E I hf st hg
  subst hP hw hK
  obtain ⟨f0,f1,f2,f3,f4,f5⟩:=hf it (by simp)
  have W:=Walks.range (prog:=X.prog) (w:=X.w) (I.ok.hd hc) it lo 1 n
  refine W.item i s _ _ hg st λv h' tk hv st' kk=>?_
  obtain ⟨t,rfl⟩:=hv
  have I1:Inv X pins σ H { s with heap:=h',toks:=tk }:=I.turned (λb o hb e=>kk b o (by simpa using hb) e) f0 f1 f3 f4 f5
  refine ⟨_,rfl,Qj (s:={ s with heap:=h',toks:=tk }) (n:="range_iterator") st' rfl rfl ⋯ ⟨.int (lo+i),H,I1,⟨t,?_⟩,⟨rfl,rfl⟩,st',λb hb=>(hf b hb).1⟩⟩
  rw [Int.mul_one]
 done:=by
  intro X hP hw hK hc i pins s σ H E I hf st hg
  subst hP hw hK
  obtain ⟨f0,f1,f2,f3,f4,f5⟩:=hf it (by simp)
  exact wpAny_pyNext_range_end (I.ok.hd hc) st (by have:n<=i:=hg;omega) λh' eb=>⟨rfl,I.turned (t':=s.toks) (λb o hb e=>eb b o hb e) f0 f1 f3 f4 f5⟩
 self:=λ_ _ _ _ _ st h=>wpAny_pyIter_rangeiter st h
end L2
namespace L2
section
variable {X:Cx}{tg:Expr}
noncomputable def W9 (K:ah) (tl:TE):TI:=λσ H R=>tl σ H λx H1=>∃a,x = .ref a/\(∃xs,SqL K H1 a xs)/\R (Itl K a) H1
noncomputable def Gw (K:ah) (tl:TE):TI:=λσ H R=>tl σ H λx H1=>∃a,x = .ref a/\(∃xs,SqT K H1 a xs)/\R (Itt K a) H1
theorem UE {l:Expr}{tl:TE}(hl:PE X l tl):PI X tg l (W9 X.K tl):=by
 intro pins s σ H R I h
 refine thn (hl pins s σ H _ I h) λv s1 ⟨x,H1,I1,r1,q1⟩=>?_
 obtain ⟨a,e,⟨xs,hq⟩,q⟩:=q1
 subst e
 cases r1
 obtain ⟨its,rv,p,hz⟩:=I1.list hq
 refine dw p.isList ?_
 refine ⟨s1.heap.objs.size,[s1.heap.objs.size],_,_,H1,rfl,I1.kept (t':=s1.toks) λb o e=>ai _ e,Yb a _,⟨_,az _ rfl,rfl,rfl⟩,λb hb=>?_,q⟩
 have e:b=s1.heap.objs.size:=by simpa using hb
 subst e
 exact I1.fpOk (aq _) (I1.hok.fresh (aq _))
theorem WK {l:Expr}{tl:TE}(hl:PE X l tl):PI X tg l (Gw X.K tl):=by
 intro pins s σ H R I h
 refine thn (hl pins s σ H _ I h) λv s1 ⟨x,H1,I1,r1,q1⟩=>?_
 obtain ⟨a,e,⟨xs,hq⟩,q⟩:=q1
 subst e
 cases r1
 obtain ⟨its,rv,p,hz⟩:=I1.tuple hq
 refine nJ (show s1.heap.IsTuple a its.toArray from p) ?_
 refine ⟨s1.heap.objs.size,[s1.heap.objs.size],_,_,H1,rfl,I1.kept (t':=s1.toks) λb o e=>ai _ e,Z0 a _,⟨_,az _ rfl,rfl,rfl⟩,λb hb=>?_,q⟩
 have e:b=s1.heap.objs.size:=by simpa using hb
 subst e
 exact I1.fpOk (aq _) (I1.hok.fresh (aq _))
theorem QX {pins:List (Addr×Obj)}{σ:St}{H:Hp}{s:Shared}{R:It->Hp->Prop}{E:ag->Shared->Prop}{lo hi:Int}{t u v:Tok}{tk:Nat}(I:Inv X pins σ H s) (h1 : -(2 ^ 62)<=lo) (h2:lo<2 ^ 62) (h3 : -(2 ^ 62)<=hi) (h4:hi<2 ^ 62)
  (q:R (Itr lo (hi-lo).toNat) H):ay (aD X.prog X.w) X.A (mF (.ref s.heap.objs.size)) (PIE X pins σ tg R) E { s with heap:=s.heap.push { cls:=.type "range",data:=.fields #[.int lo t,.int hi u,.int 1 v] },toks:=tk }:=by
 refine nK (pH ..) (small_one h1 h2 h3 h4) ?_
 have I1:Inv X pins σ H { s with heap:=s.heap.push { cls:=.type "range",data:=.fields #[.int lo t,.int hi u,.int 1 v] },toks:=tk }:=I.kept λb o e=>ai _ e
 refine ⟨(s.heap.push { cls:=.type "range",data:=.fields #[.int lo t,.int hi u,.int 1 v] }).objs.size,[(s.heap.push { cls:=.type "range",data:=.fields #[.int lo t,.int hi u,.int 1 v] }).objs.size],_,_,H,rfl,
  I1.kept (t':=tk) λb o e=>ai _ e,kQ _ lo (hi-lo).toNat,?_,λb hb=>?_,q⟩
 ·have e1:lo+((0:Nat):Int)*1=lo:=by simp
  have e2:(((hi-lo).toNat:Nat):Int)-((0:Nat):Int)=lK lo hi 1:=by rw [sr];split <;> omega
  show pG _ _ (lo+((0:Nat):Int)*1) ((((hi-lo).toNat:Nat):Int)-((0:Nat):Int)) 1
  rw [e1,e2]
  exact az _ rfl
 ·have e:b=(s.heap.push { cls:=.type "range",data:=.fields #[.int lo t,.int hi u,.int 1 v] }).objs.size:=by simpa using hb
  subst e
  exact I1.fpOk (aq _) (I1.hok.fresh (aq _))
noncomputable def GX (ta:TA):TI:=λσ H R=>ta σ H λvs H1=>∃j:Int,vs=[.int j] /\ -(2 ^ 62)<=j/\j<2 ^ 62/\R (Itr 0 j.toNat) H1
noncomputable def Eh (ta:TA):TI:=λσ H R=>ta σ H λvs H1=>∃i j:Int,vs=[.int i,.int j]/\(-(2 ^ 62)<=i/\i<2 ^ 62 /\ -(2 ^ 62)<=j/\j<2 ^ 62)/\R (Itr i (j-i).toNat) H1
theorem qh {a:Expr}{ta:TA}{p pos:Pos}(hg:Gl X "range") (hm:X.mg "range" = none) (ha:PA X [a] ta) (hs:aO [a] X.env=[(false,eval a X.env)]:=by rfl):PI X tg (.Call (.Name "range" p) [a] [] pos) (GX ta):=by
 intro pins s σ H R I h
 refine t7 (yq I hg hm rp (c3 (thn (ha pos pins s σ H _ I h) λus s1 ⟨vs,H1,I1,r1,q1⟩=>?_) hs rfl))
 obtain ⟨j,e,q1,q2,q⟩:=q1
 subst e
 cases r1 with
 | cons r rr =>
  cases rr
  obtain ⟨t,rfl⟩:=r
  exact call_range_1 (QX I1 ∅ ∅ q1 q2 (by simpa using q))
theorem Jk {a b:Expr}{ta:TA}{p pos:Pos}(hg:Gl X "range") (hm:X.mg "range" = none) (ha:PA X [a,b] ta) (hs:aO [a,b] X.env=[(false,eval a X.env),(false,eval b X.env)]:=by rfl) (hs2:aO [b] X.env=[(false,eval b X.env)]:=by rfl) :
  PI X tg (.Call (.Name "range" p) [a,b] [] pos) (Eh ta):=by
 intro pins s σ H R I h
 refine t7 (yq I hg hm rp (c3 (thn (ha pos pins s σ H _ I h) λus s1 ⟨vs,H1,I1,r1,q1⟩=>?_) (by rw [hs,hs2]) (by rw [hs2];rfl)))
 obtain ⟨i,j,e,⟨q1,q2,q3,q4⟩,q⟩:=q1
 subst e
 cases r1 with
 | cons r rr =>
  cases rr with
  | cons r' rr =>
   cases rr
   obtain ⟨t,rfl⟩:=r
   obtain ⟨t',rfl⟩:=r'
   exact call_range_2 (QX I1 q1 q2 q3 q4 q)
noncomputable def tFor (wi:TI) (g:TG) (tb:TS):TS:=λD σ H=>wi σ H λJ H1=>∃W:Nat->Nat->St->Hp->Prop,(∃m,W 0 m σ H1)/\∀i m σ H,W i m σ H ->
 (J.stop i H/\D.nx σ H)\/(J.go i H/\∃N:St->Hp->Prop,(∀σ' H',N σ' H'->∃m',m'<m/\W (i+1) m' σ' H')/\∀x H',J.yld i H x H'->g x σ H' λσ2 H2=>tb { D with nx:=N,ct:=N,bk:=D.nx } σ2 H2)
noncomputable def zr (fp:List Addr) (h:Heap):List (Addr×Obj):=fp.filterMap λb=>(h.get? b).map λo=>(b,o)
theorem qV {fp:List Addr}{h:Heap}{b:Addr}{o:Obj}(hb:b∈fp) (e:h.get? b=some o):(b,o)∈zr fp h:=List.mem_filterMap.mpr ⟨b,hb,by rw [e];rfl⟩
theorem YE {fp:List Addr}{h:Heap}{p:Addr×Obj}(hp:p∈zr fp h):p.1∈fp/\h.get? p.1=some p.2:=by
 obtain ⟨b,hb,e⟩:=List.mem_filterMap.mp hp
 cases q:h.get? b with
 | none=>rw [q] at e;cases e
 | some o =>
  rw [q] at e
  have e':(b,o)=p:=aR e
  subst e'
  exact ⟨hb,q⟩
theorem Inv.pinned {pins:List (Addr×Obj)}{σ:St}{H:Hp}{s:Shared}{fp:List Addr}(I:Inv X pins σ H s) (hf:∀b∈fp,uZ X pins H b) (ho:∀b∈fp,∃o,s.heap.get? b=some o/\∀v,o.data≠.cell v):Inv X (pins++zr fp s.heap) σ H s :=
 I.pins_of λp hp=>(List.mem_append.mp hp).elim (λz=>I.pin p (aH _ z)) λz=>by
  obtain ⟨hb,e⟩:=YE z
  obtain ⟨f0,f1,f2,_⟩:=hf p.1 hb
  obtain ⟨o,e',d⟩:=ho p.1 hb
  rw [e] at e';cases e'
  exact ⟨e,f0,f1,f2,d⟩
theorem Inv.unpinned {pins pl:List (Addr×Obj)}{σ:St}{H:Hp}{s:Shared}(I:Inv X (pins++pl) σ H s):Inv X pins σ H s:=I.pins_of λp hp=>I.pin p (aH _ (ie _ hp))
theorem qt {iter:Expr}{body:List Stmt}{wi:TI}{g:TG}{tb:TS}{pos:Pos}(hp:PassesOwn (aD X.prog X.w) X.A X.env X.xe) (hc:X.calm=true) (hi:PI X tg iter wi) (hg:PG X tg g) (hb:PSs X body tb)
  (hs:∀x,cu iter X.env x=pure x:=by intro _;rfl):PS X (.For tg iter body [] pos) (tFor wi g tb):=by
 intro pins s σ H D I h
 refine wpAny_For (thn (hi pins s σ H _ I h) λv s1 h1=>thn h1 λitv s2 h2=>?_) hs
 obtain ⟨it,fp,tn,J,H2,e,I2,T,st2,f2,W,⟨m0,w0⟩,turn⟩:=h2
 subst e
 have stat:∀{H':Hp},(∀b∈fp,H' b=none)->∀b∈fp,uZ X pins H' b:=λhn b hb=>⟨hn b hb,(f2 b hb).2⟩
 refine codeAny_forLoop_any (λn s'=>∃i σ' H',Inv X pins σ' H' s'/\tn i s'.heap/\(∀b∈fp,H' b=none)/\W i n σ' H') ?_ m0 ⟨0,σ,H2,I2,st2,λb hb=>(f2 b hb).1,w0⟩
 rintro n s3 ⟨i,σ3,H3,I3,st3,fr3,w3⟩
 rcases turn i n σ3 H3 w3 with ⟨stop,qn⟩ | ⟨go,N,hN,step⟩
 ·refine dr hp (thn (T.done X rfl rfl rfl hc i pins s3 σ3 H3 X.xe I3 (stat fr3) st3 stop) λr s4 ⟨hr,I4⟩=>?_)
  subst hr
  exact il ⟨σ3,H3,I4,qn⟩
 ·refine dr hp (thn (T.item X rfl rfl rfl hc i pins s3 σ3 H3 X.xe I3 (stat fr3) st3 go) λr s4 ⟨u,hr,h4⟩=>?_)
  subst hr
  refine dr hp (thn h4 λ_ s5 ⟨x,H5,I5,r5,y5,st5,fr5⟩=>?_)
  have I5':=I5.pinned (stat fr5) (T.obj _ _ st5)
  refine dr hp (thn (hg _ s5 σ3 H5 x u _ I5' r5 (step x H5 y5)) λ_ s6 ⟨σ6,H6,I6,q6⟩=>?_)
  refine dr hp (thn (hb _ s6 σ6 H6 _ I6 q6) λf s7 q7=>?_)
  have again:∀{σ7:St} {H7:Hp},Inv X (pins++zr fp s5.heap) σ7 H7 s7->N σ7 H7->∃m,m<n/\∃i σ' H',Inv X pins σ' H' s7/\tn i s7.heap/\(∀b∈fp,H' b=none)/\W i m σ' H':=λ{σ7 H7} I7 n7=>by
   obtain ⟨m',hm,w7⟩:=hN σ7 H7 n7
   refine ⟨m',hm,i+1,σ7,H7,I7.unpinned,T.keep _ _ _ st5 λb hb o e=>(I7.pin (b,o) (aH _ (aH _ (qV hb e)))).1,λb hb=>?_,w7⟩
   obtain ⟨o,e,d⟩:=T.obj _ _ st5 b hb
   exact (I7.pin (b,o) (aH _ (aH _ (qV hb e)))).2.1
  cases f with
  | next=>obtain ⟨σ7,H7,I7,n7⟩:=q7;exact again I7 n7
  | cont=>obtain ⟨σ7,H7,I7,n7⟩:=q7;exact again I7 n7
  | brk=>obtain ⟨σ7,H7,I7,q7⟩:=q7;exact ⟨σ7,H7,I7.unpinned,q7⟩
  | ret v=>obtain ⟨x7,σ7,H7,I7,r7,q7⟩:=q7;exact ⟨x7,σ7,H7,I7.unpinned,r7,q7⟩
end
theorem zw {K:ah}{a:Addr}{xs:List V}{g:TG}{tb:TS}{D:Ends}{σ:St}{H:Hp}(Pv:Nat->St->Hp->Prop) (h0:Pv 0 σ H) (hl:∀i σ H,i<=xs.length->Pv i σ H->SqL K H a xs)
  (hs:∀i x σ H,xs[i]? = some x->Pv i σ H->g x σ H λσ2 H2=>tb { D with nx:=Pv (i+1),ct:=Pv (i+1),bk:=D.nx } σ2 H2) (hd:∀σ H,Pv xs.length σ H->D.nx σ H) :
  ∃W:Nat->Nat->St->Hp->Prop,(∃m,W 0 m σ H)/\∀i m σ H,W i m σ H ->
   ((Itl K a).stop i H/\D.nx σ H)\/((Itl K a).go i H/\∃N:St->Hp->Prop,(∀σ' H',N σ' H'->∃m',m'<m/\W (i+1) m' σ' H')/\∀x H',(Itl K a).yld i H x H'->g x σ H' λσ2 H2=>tb { D with nx:=N,ct:=N,bk:=D.nx } σ2 H2):=by
 refine ⟨λi m σ H=>m=xs.length-i/\i<=xs.length/\Pv i σ H,⟨xs.length,by simp,aC _,h0⟩,?_⟩
 rintro i m σ H ⟨rfl,hi,p⟩
 have q:=hl i σ H hi p
 by_cases hlt:i<xs.length
 ·refine .inr ⟨⟨xs,xs[i],q,by simp [hlt]⟩,Pv (i+1),λσ' H' p'=>⟨xs.length-(i+1),∅,rfl,hlt,p'⟩,λx H' y=>?_⟩
  obtain ⟨e,y⟩:=y
  subst e
  exact hs i x σ _ (y xs q) p
 ·have e:i=xs.length:=∅
  subst e
  exact .inl ⟨⟨xs,q,aq _⟩,hd σ H p⟩
theorem UF {K:ah}{a:Addr}{xs:List V}{g:TG}{tb:TS}{D:Ends}{σ:St}{H:Hp}(Pv:Nat->St->Hp->Prop) (h0:Pv 0 σ H) (hl:∀i σ H,i<=xs.length->Pv i σ H->SqT K H a xs)
  (hs:∀i x σ H,xs[i]? = some x->Pv i σ H->g x σ H λσ2 H2=>tb { D with nx:=Pv (i+1),ct:=Pv (i+1),bk:=D.nx } σ2 H2) (hd:∀σ H,Pv xs.length σ H->D.nx σ H) :
  ∃W:Nat->Nat->St->Hp->Prop,(∃m,W 0 m σ H)/\∀i m σ H,W i m σ H ->
   ((Itt K a).stop i H/\D.nx σ H)\/((Itt K a).go i H/\∃N:St->Hp->Prop,(∀σ' H',N σ' H'->∃m',m'<m/\W (i+1) m' σ' H')/\∀x H',(Itt K a).yld i H x H'->g x σ H' λσ2 H2=>tb { D with nx:=N,ct:=N,bk:=D.nx } σ2 H2):=by
 refine ⟨λi m σ H=>m=xs.length-i/\i<=xs.length/\Pv i σ H,⟨xs.length,by simp,aC _,h0⟩,?_⟩
 rintro i m σ H ⟨rfl,hi,p⟩
 have q:=hl i σ H hi p
 by_cases hlt:i<xs.length
 ·refine .inr ⟨⟨xs,xs[i],q,by simp [hlt]⟩,Pv (i+1),λσ' H' p'=>⟨xs.length-(i+1),∅,rfl,hlt,p'⟩,λx H' y=>?_⟩
  obtain ⟨e,y⟩:=y
  subst e
  exact hs i x σ _ (y xs q) p
 ·have e:i=xs.length:=∅
  subst e
  exact .inl ⟨⟨xs,q,aq _⟩,hd σ H p⟩
theorem qR {lo:Int}{n:Nat}{g:TG}{tb:TS}{D:Ends}{σ:St}{H:Hp}(Pv:Nat->St->Hp->Prop) (h0:Pv 0 σ H)
  (hs:∀i σ H,i<n->Pv i σ H->g (.int (lo+i)) σ H λσ2 H2=>tb { D with nx:=Pv (i+1),ct:=Pv (i+1),bk:=D.nx } σ2 H2) (hd:∀σ H,Pv n σ H->D.nx σ H) :
  ∃W:Nat->Nat->St->Hp->Prop,(∃m,W 0 m σ H)/\∀i m σ H,W i m σ H ->
   ((Itr lo n).stop i H/\D.nx σ H)\/((Itr lo n).go i H/\∃N:St->Hp->Prop,(∀σ' H',N σ' H'->∃m',m'<m/\W (i+1) m' σ' H')/\∀x H',(Itr lo n).yld i H x H'->g x σ H' λσ2 H2=>tb { D with nx:=N,ct:=N,bk:=D.nx } σ2 H2):=by
 refine ⟨λi m σ H=>m=n-i/\i<=n/\Pv i σ H,⟨n,by simp,aC _,h0⟩,?_⟩
 rintro i m σ H ⟨rfl,hi,p⟩
 by_cases hlt:i<n
 ·refine .inr ⟨hlt,Pv (i+1),λσ' H' p'=>⟨n-(i+1),∅,rfl,hlt,p'⟩,λx H' y=>?_⟩
  obtain ⟨e,y⟩:=y
  subst e y
  exact hs i σ _ hlt p
 ·have e:i=n:=∅
  subst e
  exact .inl ⟨aq _,hd σ H p⟩
theorem Qd {c:TT}{tb:TS}{D:Ends}{σ:St}{H:Hp}(Pv:St->Hp->Prop) (μ:St->Hp->Nat) (h0:Pv σ H)
  (hs:∀σ H,Pv σ H->c σ H λb H1=>if b=true then tb { D with nx:=λσ' H'=>Pv σ' H'/\μ σ' H'<μ σ H,ct:=λσ' H'=>Pv σ' H'/\μ σ' H'<μ σ H,bk:=D.nx } σ H1 else D.nx σ H1)
  (mono:∀σ H Q Q',(∀b H1,Q b H1->Q' b H1)->c σ H Q->c σ H Q'):VT c tb D σ H:=by
 refine ⟨λm σ H=>m=μ σ H/\Pv σ H,⟨_,rfl,h0⟩,?_⟩
 rintro m σ H ⟨rfl,p⟩
 refine mono σ H _ _ (λb H1 q=>?_) (hs σ H p)
 cases b with
 | true=>exact ⟨_,λσ' H' ⟨p',l⟩=>⟨_,l,rfl,p'⟩,q⟩
 | false=>exact q
end L2
namespace L2
noncomputable abbrev R2:=V->V->Hp->VK->Prop
noncomputable def OpR (X:Cx) (f:ag->ag->Sem ag) (r:R2):Prop :=
 ∀(pins:List (Addr×Obj)) (s:Shared) (σ:St) (H:Hp) (x y:V) (v u:ag) (Q:VK),Inv X pins σ H s->jE x v->jE y u->r x y H Q ->
  ay (aD X.prog X.w) X.A (f v u) (EP X pins σ Q) X.xe s
noncomputable def UnR (X:Cx) (f:ag->Sem ag) (r:V->Hp->VK->Prop):Prop :=
 ∀(pins:List (Addr×Obj)) (s:Shared) (σ:St) (H:Hp) (x:V) (v:ag) (Q:VK),Inv X pins σ H s->jE x v->r x H Q ->
  ay (aD X.prog X.w) X.A (f v) (EP X pins σ Q) X.xe s
noncomputable def xc (X:Cx) (f:ag) (r:List V->Hp->VK->Prop):Prop :=
 ∀(pins:List (Addr×Obj)) (s:Shared) (σ:St) (H:Hp) (xs:List V) (us:List ag) (Q:VK),Inv X pins σ H s->jC xs us->r xs H Q ->
  ay (aD X.prog X.w) X.A (call f us) (EP X pins σ Q) X.xe s
noncomputable def TruR (X:Cx) (r:V->Hp->(Bool->Hp->Prop)->Prop):Prop :=
 ∀(pins:List (Addr×Obj)) (s:Shared) (σ:St) (H:Hp) (x:V) (v:ag) (Q:Bool->Hp->Prop),Inv X pins σ H s->jE x v->r x H Q ->
  ay (aD X.prog X.w) X.A (sZ v) (TP X pins σ Q) X.xe s
noncomputable def tOp (r:R2) (ta tb:TE):TE:=λσ H Q=>ta σ H λx H1=>tb σ H1 λy H2=>r x y H2 Q
noncomputable def tUn (r:V->Hp->VK->Prop) (ta:TE):TE:=λσ H Q=>ta σ H λx H1=>r x H1 Q
noncomputable def rI (C:Int->Int->Prop) (g:Int->Int->V):R2:=λx y H Q=>∃i j,x = .int i/\y = .int j/\C i j/\Q (g i j) H
noncomputable def rI0 (g:Int->Int->V):R2:=λx y H Q=>∃i j,x = .int i/\y = .int j/\Q (g i j) H
noncomputable def rU (g:Int->V):V->Hp->VK->Prop:=λx H Q=>∃i,x = .int i/\Q (g i) H
section
variable {X:Cx}{a b c:Expr}{ta tb tc:TE}{pos:Pos}
theorem Wv (ha:PE X a ta) (hb:PE X b tb) {pins:List (Addr×Obj)}{s:Shared}{σ:St}{H:Hp}{R:V->V->Hp->Prop}(I:Inv X pins σ H s)
  (h:ta σ H λx H1=>tb σ H1 λy H2=>R x y H2) {Q:ag->Shared->Prop} {f:ag->ag->Sem ag}
  (hf:∀v u s2 x y H2,Inv X pins σ H2 s2->jE x v->jE y u->R x y H2->ay (aD X.prog X.w) X.A (f v u) Q X.xe s2) :
  ay (aD X.prog X.w) X.A (eval a X.env) (λv s₁=>ay (aD X.prog X.w) X.A (eval b X.env) (λu s₂=>ay (aD X.prog X.w) X.A (f v u) Q X.xe s₂) X.xe s₁) X.xe s:=by
 refine thn (ha pins s σ H _ I h) λv s1 ⟨x,H1,I1,r1,q1⟩=>?_
 refine thn (hb pins s1 σ H1 _ I1 q1) λu s2 ⟨y,H2,I2,r2,q2⟩=>?_
 exact hf v u s2 x y H2 I2 r1 r2 q2
theorem jq {op:sP}{r:R2}(ho:OpR X (ig op) r) (ha:PE X a ta) (hb:PE X b tb):PE X (.BinOp a op b pos) (tOp r ta tb):=by
 intro pins s σ H Q I h
 exact wpAny_BinOp (Wv ha hb I h λv u s2 x y H2 I2 rx ry q=>ho pins s2 σ H2 x y v u Q I2 rx ry q)
theorem zX {op:UnaryOp}{r:V->Hp->VK->Prop}(ho:UnR X (unaryOp op) r) (ha:PE X a ta):PE X (.UnaryOp op a pos) (tUn r ta):=by
 intro pins s σ H Q I h
 exact UnaryOp_ (thn (ha pins s σ H _ I h) λv s1 ⟨x,H1,I1,r1,q1⟩=>ho pins s1 σ H1 x v Q I1 r1 q1)
theorem opI {f:ag->ag->Sem ag}{C:Int->Int->Prop}{g:Int->Int->Int}
  (rule:∀(i j:Int) (t u:Tok) (s:Shared) (Q:ag->Shared->Prop) (E:ag->Shared->Prop),C i j->Q (.int (g i j) s.toks) { s with toks:=s.toks+1 }->ay (aD X.prog X.w) X.A (f (.int i t) (.int j u)) Q E s) :
  OpR X f (rI C λi j=>.int (g i j)):=by
 intro pins s σ H x y v u Q I rx ry h
 obtain ⟨i,j,rfl,rfl,hc,q⟩:=h
 obtain ⟨t,rfl⟩:=rx
 obtain ⟨t',rfl⟩:=ry
 exact rule i j t t' s _ _ hc ⟨.int (g i j),H,I.tok _,⟨_,rfl⟩,q⟩
theorem GA {f:ag->ag->Sem ag}{g:Int->Int->Int}
  (rule:∀(i j:Int) (t u:Tok) (s:Shared) (Q:ag->Shared->Prop) (E:ag->Shared->Prop),Q (.int (g i j) s.toks) { s with toks:=s.toks+1 }->ay (aD X.prog X.w) X.A (f (.int i t) (.int j u)) Q E s) :
  OpR X f (rI0 λi j=>.int (g i j)):=by
 intro pins s σ H x y v u Q I rx ry h
 obtain ⟨i,j,rfl,rfl,q⟩:=h
 obtain ⟨t,rfl⟩:=rx
 obtain ⟨t',rfl⟩:=ry
 exact rule i j t t' s _ _ ⟨.int (g i j),H,I.tok _,⟨_,rfl⟩,q⟩
theorem UJ {f:ag->ag->Sem ag}{g:Int->Int->Bool}
  (rule:∀(i j:Int) (t u:Tok) (s:Shared) (Q:ag->Shared->Prop) (E:ag->Shared->Prop),Q (.bool (g i j)) s->ay (aD X.prog X.w) X.A (f (.int i t) (.int j u)) Q E s) :
  OpR X f (rI0 λi j=>.bl (g i j)):=by
 intro pins s σ H x y v u Q I rx ry h
 obtain ⟨i,j,rfl,rfl,q⟩:=h
 obtain ⟨t,rfl⟩:=rx
 obtain ⟨t',rfl⟩:=ry
 exact rule i j t t' s _ _ ⟨.bl (g i j),H,I,rfl,q⟩
noncomputable def GE (i j:Int):Prop:=0<=j/\j<=1000000/\i.natAbs<2 ^ 64
noncomputable def VJ (i j:Int):Prop:=(-(2 ^ 64)<i/\i<2 ^ 64)\/(-(2 ^ 64)<j/\j<2 ^ 64)
theorem VJ.ok {i j:Int}(h:VJ i j):IntMulOk i j:=by
 rcases h with ⟨h1,h2⟩ | ⟨h1,h2⟩
 ·exact .of_left (su h1 h2)
 ·exact .of_right (su h1 h2)
theorem jN:OpR X (ig .Add) (rI0 λi j=>.int (i+j)):=GA λ_ _ _ _ _ _ _ q=>add_int q
theorem qG:OpR X (ig .Sub) (rI0 λi j=>.int (i-j)):=GA λ_ _ _ _ _ _ _ q=>sub_int q
theorem uP:OpR X (ig .Mult) (rI VJ λi j=>.int (i*j)):=opI λ_ _ _ _ _ _ _ hc q=>mul_int q hc.ok
theorem za:OpR X (ig .Mod) (rI (λ_ j=>0<j) λi j=>.int (i % j)):=opI λi j _ _ _ _ _ hc q=>by
 have h1:(0:Int)<j:=hc
 exact mod_int' ∅ (by rw [Int.fmod_eq_emod_of_nonneg i ∅];exact q)
theorem JK:OpR X (ig .Pow) (rI GE λi j=>.int (i ^ j.toNat)):=opI λ_ _ _ _ _ _ _ hc q=>pow_int_small hc.1 hc.2.1 hc.2.2 q
theorem unI {f:ag->Sem ag}{g:Int->Int}
  (rule:∀(i:Int) (t:Tok) (s:Shared) (Q:ag->Shared->Prop) (E:ag->Shared->Prop),Q (.int (g i) s.toks) { s with toks:=s.toks+1 }->ay (aD X.prog X.w) X.A (f (.int i t)) Q E s) :
  UnR X f (rU λi=>.int (g i)):=by
 intro pins s σ H x v Q I rx h
 obtain ⟨i,rfl,q⟩:=h
 obtain ⟨t,rfl⟩:=rx
 exact rule i t s _ _ ⟨.int (g i),H,I.tok _,⟨_,rfl⟩,q⟩
theorem xJ:UnR X (unaryOp .USub) (rU λi=>.int (-i)):=unI λ_ _ _ _ _ q=>neg_int q
end
noncomputable def GR:V->V->Bool
 | .non,.non=>true | .non,.int _=>true | .int _,.non=>true | .non,.bl _=>true | .bl _,.non=>true | .non,.str _=>true | .str _,.non=>true
 | .int _,.int _=>true | .bl _,.bl _=>true | .str _,.str _=>true | .byt _,.byt _=>true
 | .int _,.str _=>true | .str _,.int _=>true | .bl _,.str _=>true | .str _,.bl _=>true
 | _,_=>false
noncomputable def rEq:R2:=λx y H Q=>GR x y=true/\Q (.bl (decide (x=y))) H
noncomputable def rNe:R2:=λx y H Q=>GR x y=true/\Q (.bl (!decide (x=y))) H
theorem ZR {i j:Int}:decide (V.int i=V.int j)=(i == j):=by
 rw [dv]
 simp
theorem Vq {i j:Bool}:decide (V.bl i=V.bl j)=(i == j):=by
 rw [dv]
 simp
theorem ZG {i j:Str}:decide (V.str i=V.str j)=(i == j):=by
 rw [dv]
 simp
theorem ZK {i j:Array UInt8}:decide (V.byt i=V.byt j)=(i.toList == j.toList):=by
 rw [dv]
 cases i
 cases j
 simp
section
variable {X:Cx}{a b c:Expr}{ta tb tc:TE}{pos:Pos}
theorem jO {pins:List (Addr×Obj)}{σ:St}{H:Hp}{s:Shared}{Q:VK}{k k':Bool}(I:Inv X pins σ H s) (q:Q (.bl k) H) (e:k=k'):EP X pins σ Q (.bool k') s:=by
 subst e
 exact ⟨.bl k,H,I,rfl,q⟩
theorem y8:OpR X (cf .Eq) rEq:=by
 intro pins s σ H x y v u Q I rx ry h
 obtain ⟨hs,q⟩:=h
 cases x with
 | non =>
  cases rx
  cases y with
  | non=>cases ry;exact PySem.EqNone.eq_none_none (jO I q (by simp))
  | bl j=>cases ry;exact PySem.EqNone.eq_none_bool (jO I q (by simp))
  | int j=>obtain ⟨t',rfl⟩:=ry;exact PySem.EqNone.eq_none_int (jO I q (by simp))
  | str j=>obtain ⟨t',rfl⟩:=ry;exact PySem.EqNone.eq_none_str (jO I q (by simp))
  | _=>exact absurd (show false=true from hs) au
 | bl i =>
  cases rx
  cases y with
  | non=>cases ry;exact PySem.EqNone.eq_bool_none (jO I q (by simp))
  | bl j=>cases ry;exact eq_bool (jO I q Vq)
  | str j=>obtain ⟨t',rfl⟩:=ry;exact PySem.EqMixed.eq_bool_str (jO I q (by simp))
  | _=>exact absurd (show false=true from hs) au
 | int i =>
  obtain ⟨t,rfl⟩:=rx
  cases y with
  | non=>cases ry;exact PySem.EqNone.eq_int_none (jO I q (by simp))
  | int j=>obtain ⟨t',rfl⟩:=ry;exact eq_int (jO I q ZR)
  | str j=>obtain ⟨t',rfl⟩:=ry;exact PySem.EqMixed.eq_int_str (jO I q (by simp))
  | _=>exact absurd (show false=true from hs) au
 | str i =>
  obtain ⟨t,rfl⟩:=rx
  cases y with
  | non=>cases ry;exact PySem.EqNone.eq_str_none (jO I q (by simp))
  | bl j=>cases ry;exact PySem.EqMixed.eq_str_bool (jO I q (by simp))
  | int j=>obtain ⟨t',rfl⟩:=ry;exact PySem.EqMixed.eq_str_int (jO I q (by simp))
  | str j=>obtain ⟨t',rfl⟩:=ry;exact eq_str (jO I q ZG)
  | _=>exact absurd (show false=true from hs) au
 | byt i =>
  obtain ⟨t,rfl⟩:=rx
  cases y with
  | byt j=>obtain ⟨t',rfl⟩:=ry;exact PySem.W.eq_bytes (jO I q ZK)
  | _=>exact absurd (show false=true from hs) au
 | _=>cases y <;> exact absurd (show false=true from hs) au
theorem VH:OpR X (cf .NotEq) rNe:=by
 intro pins s σ H x y v u Q I rx ry h
 obtain ⟨hs,q⟩:=h
 cases x with
 | non =>
  cases rx
  cases y with
  | non=>cases ry;exact PySem.EqNone.ne_none_none (jO I q (by simp))
  | bl j=>cases ry;exact PySem.EqNone.ne_none_bool (jO I q (by simp))
  | int j=>obtain ⟨t',rfl⟩:=ry;exact PySem.EqNone.ne_none_int (jO I q (by simp))
  | str j=>obtain ⟨t',rfl⟩:=ry;exact PySem.EqNone.ne_none_str (jO I q (by simp))
  | _=>exact absurd (show false=true from hs) au
 | bl i =>
  cases rx
  cases y with
  | non=>cases ry;exact PySem.EqNone.ne_bool_none (jO I q (by simp))
  | bl j=>cases ry;exact ne_bool (jO I q (congrArg not Vq))
  | str j=>obtain ⟨t',rfl⟩:=ry;exact PySem.EqMixed.ne_bool_str (jO I q (by simp))
  | _=>exact absurd (show false=true from hs) au
 | int i =>
  obtain ⟨t,rfl⟩:=rx
  cases y with
  | non=>cases ry;exact PySem.EqNone.ne_int_none (jO I q (by simp))
  | int j=>obtain ⟨t',rfl⟩:=ry;exact ne_int (jO I q (congrArg not ZR))
  | str j=>obtain ⟨t',rfl⟩:=ry;exact PySem.EqMixed.ne_int_str (jO I q (by simp))
  | _=>exact absurd (show false=true from hs) au
 | str i =>
  obtain ⟨t,rfl⟩:=rx
  cases y with
  | non=>cases ry;exact PySem.EqNone.ne_str_none (jO I q (by simp))
  | bl j=>cases ry;exact PySem.EqMixed.ne_str_bool (jO I q (by simp))
  | int j=>obtain ⟨t',rfl⟩:=ry;exact PySem.EqMixed.ne_str_int (jO I q (by simp))
  | str j=>obtain ⟨t',rfl⟩:=ry;exact ne_str (jO I q (congrArg not ZG))
  | _=>exact absurd (show false=true from hs) au
 | byt i =>
  obtain ⟨t,rfl⟩:=rx
  cases y with
  | byt j=>obtain ⟨t',rfl⟩:=ry;exact PySem.W.ne_bytes (jO I q (congrArg not ZK))
  | _=>exact absurd (show false=true from hs) au
 | _=>cases y <;> exact absurd (show false=true from hs) au
theorem vw:OpR X (cf .Lt) (rI0 λi j=>.bl (decide (i<j))):=UJ λ_ _ _ _ _ _ _ q=>lt_int q
theorem qE:OpR X (cf .LtE) (rI0 λi j=>.bl (decide (i<=j))):=UJ λ_ _ _ _ _ _ _ q=>le_int q
theorem ZD:OpR X (cf .Gt) (rI0 λi j=>.bl (decide (j<i))):=UJ λ_ _ _ _ _ _ _ q=>gt_int q
theorem V7:OpR X (cf .GtE) (rI0 λi j=>.bl (decide (j<=i))):=UJ λ_ _ _ _ _ _ _ q=>ge_int q
theorem Z2:OpR X (cf .Is) (λx y H Q=>y = .non/\Q (.bl (decide (x = .non))) H):=by
 intro pins s σ H x y v u Q I rx ry h
 obtain ⟨rfl,q⟩:=h
 cases ry
 refine is_none_gen (jO I q ?_)
 cases x <;> first
  | (cases rx;rfl)
  | (obtain ⟨t,rfl⟩:=rx;rfl)
theorem jG (b:Expr) {op:rn}(h:op≠.In:=by decide) (h2:op≠.NotIn:=by decide):eI op b=false:=by
 have e1:(op == CmpOp.In)=false:=by cases op <;> first | rfl | exact absurd rfl h
 have e2:(op == CmpOp.NotIn)=false:=by cases op <;> first | rfl | exact absurd rfl h2
 cases b <;> simp [eI,e1,e2]
theorem zB {op:rn}{r:R2}(ho:OpR X (cf op) r) (ha:PE X a ta) (hb:PE X b tb) (hm:eI op b=false):PE X (.Compare a [op] [b] pos) (tOp r ta tb):=by
 intro pins s σ H Q I h
 exact wpAny_Compare1 (Wv ha hb I h λv u s2 x y H2 I2 rx ry q=>ho pins s2 σ H2 x y v u Q I2 rx ry q) hm
noncomputable def Qm (t:TE):TT:=λσ H Q=>t σ H λx H'=>∃k,x = .bl k/\Q k H'
theorem jz {op:rn}{r:R2}(ho:OpR X (cf op) r) (ha:PE X a ta) (hb:PE X b tb) (hm:eI op b=false):PT X (.Compare a [op] [b] pos) (Qm (tOp r ta tb)):=by
 intro pins s σ H Q I h
 refine mr (thn (ha pins s σ H _ I h) λv s1 ⟨x,H1,I1,r1,q1⟩=>thn (hb pins s1 σ H1 _ I1 q1) λu s2 ⟨y,H2,I2,r2,q2⟩ =>
  thn (ho pins s2 σ H2 x y v u _ I2 r1 r2 q2) λc s3 ⟨z,H3,I3,r3,k,e,q3⟩=>?_) hm
 subst e
 cases r3
 exact bO ⟨H3,I3,q3⟩
noncomputable def U3 (r r':R2) (ta tb tc:TE):TE:=λσ H Q=>ta σ H λx H1=>tb σ H1 λy H2=>r x y H2 λz H3=>∃k,z = .bl k /\
 (if k=true then tc σ H3 λw' H4=>r' y w' H4 Q else Q (.bl false) H3)
theorem zZ {op op':rn}{r r':R2}(ho:OpR X (cf op) r) (ho':OpR X (cf op') r') (ha:PE X a ta) (hb:PE X b tb) (hc:PE X c tc)
  (hm:lastMarks [op,op'] [b,c]=false:=by with_unfolding_all rfl):PE X (.Compare a [op,op'] [b,c] pos) (U3 r r' ta tb tc):=by
 intro pins s σ H Q I h
 refine Compare_chain (thn (ha pins s σ H _ I h) λv s1 ⟨x,H1,I1,r1,q1⟩=>chain_link (thn (hb pins s1 σ H1 _ I1 q1) λu s2 ⟨y,H2,I2,r2,q2⟩ =>
  thn (ho pins s2 σ H2 x y v u _ I2 r1 r2 q2) λd s3 ⟨z,H3,I3,r3,k,e,q3⟩=>?_)) hm
 subst e
 cases r3
 refine bO ?_
 cases k with
 | false=>exact ite_ff ⟨.bl false,H3,I3,rfl,q3⟩
 | true=>exact ite_tt (chain_last (thn (hc pins s3 σ H3 _ I3 q3) λw' s4 ⟨z',H4,I4,r4,q4⟩=>ho' pins s4 σ H4 y z' u w' Q I4 r2 r4 q4))
theorem xU {op op':rn}{r r':R2}(ho:OpR X (cf op) r) (ho':OpR X (cf op') r') (ha:PE X a ta) (hb:PE X b tb) (hc:PE X c tc)
  (hm:lastMarks [op,op'] [b,c]=false:=by with_unfolding_all rfl):PT X (.Compare a [op,op'] [b,c] pos) (Qm (U3 r r' ta tb tc)):=by
 intro pins s σ H Q I h
 refine isTrue_chain (thn (ha pins s σ H _ I h) λv s1 ⟨x,H1,I1,r1,q1⟩=>test_link (thn (hb pins s1 σ H1 _ I1 q1) λu s2 ⟨y,H2,I2,r2,q2⟩ =>
  thn (ho pins s2 σ H2 x y v u _ I2 r1 r2 q2) λd s3 ⟨z,H3,I3,r3,k,e,q3⟩=>?_)) hm
 subst e
 cases r3
 refine bO ?_
 cases k with
 | false =>
  obtain ⟨k',e',q'⟩:=q3
  cases e'
  exact ite_ff ⟨H3,I3,q'⟩
 | true =>
  refine ite_tt (test_last (thn (hc pins s3 σ H3 _ I3 q3) λw' s4 ⟨z',H4,I4,r4,q4⟩=>thn (ho' pins s4 σ H4 y z' u w' _ I4 r2 r4 q4) λd' s5 ⟨z2,H5,I5,r5,k2,e2,q5⟩=>?_))
  subst e2
  cases r5
  exact bO ⟨H5,I5,q5⟩
noncomputable def G8 (K:ah) (x:V) (H:Hp) (k:Bool):Prop :=
 match x with
 | .non=>k=false
 | .bl b=>k=b
 | .int i=>k=(i != 0)
 | .str y=>y.length<=sizeLine/\k=((y.length:Int) != 0)
 | .byt y=>y.size<=sizeLine/\k=((y.size:Int) != 0)
 | .ref p=>(∃xs,SqL K H p xs/\k = !xs.isEmpty)\/(∃xs,SqT K H p xs/\k = !xs.isEmpty)\/∃kvs,H p=some (.dK kvs)/\k = !kvs.isEmpty
 | _=>False
theorem Zm {κ:Type}{kvs:List (κ×V)}{vs:List (κ×ag)}(r:KV kvs vs):(!vs.isEmpty) = !kvs.isEmpty:=by
 cases r <;> rfl
theorem wR {xs:List V}{its:List ag}(r:jC xs its):(!its.toArray.isEmpty) = !xs.isEmpty:=by
 cases r <;> simp
theorem wG:(sizeLine:Nat)<2 ^ 63:=by rw [bA];decide
theorem Wk:TruR X (λx H Q=>∃k,G8 X.K x H k/\Q k H):=by
 intro pins s σ H x v Q I rx h
 obtain ⟨k,e,q⟩:=h
 have hl:=wG
 have hs:sizeLine=16777216:=bA
 cases x with
 | non =>
  cases rx
  have e':k=false:=e
  subst e'
  exact truthy_none ⟨H,I,q⟩
 | bl b =>
  cases rx
  have e':k=b:=e
  subst e'
  exact bO ⟨H,I,q⟩
 | int i =>
  obtain ⟨t,rfl⟩:=rx
  have e':k=(i != 0):=e
  subst e'
  exact PySem.P.truthy_int ⟨H,I,q⟩
 | str y =>
  obtain ⟨t,rfl⟩:=rx
  obtain ⟨hy,e'⟩:y.length<=sizeLine/\k=((y.length:Int) != 0):=e
  subst e'
  exact PySem.P.truthy_str ∅ ⟨H,I.tok _,q⟩
 | byt y =>
  obtain ⟨t,rfl⟩:=rx
  obtain ⟨hy,e'⟩:y.size<=sizeLine/\k=((y.size:Int) != 0):=e
  subst e'
  exact PySem.W.truthy_bytes ∅ ⟨H,I.tok _,q⟩
 | ref p =>
  cases rx
  have e':(∃xs,SqL X.K H p xs/\k = !xs.isEmpty)\/(∃xs,SqT X.K H p xs/\k = !xs.isEmpty)\/∃kvs,H p=some (.dK kvs)/\k = !kvs.isEmpty:=e
  rcases e' with ⟨xs,hx,e'⟩ | ⟨xs,hx,e'⟩ | ⟨kvs,hx,e'⟩
  ·subst e'
   obtain ⟨its,r,pl,hz⟩:=I.list hx
   have hlen:=r.length
   exact wpAny_truthy_list pl.isList (by simp only [ar];omega) ⟨H,I.tok _,by rw [wR r];exact q⟩
  ·subst e'
   obtain ⟨its,r,pl,hz⟩:=I.tuple hx
   have hlen:=r.length
   exact truthy_tuple pl (by simp only [ar];omega) ⟨H,I.tok _,by rw [wR r];exact q⟩
  ·subst e'
   obtain ⟨hz,hS,vs,r,m⟩:kvs.length<=sizeLine/\(p == d9)=false/\∃vs,KV kvs vs/\s.heap.DictOf (jv X.prog X.w) p vs:=I.hok p _ hx
   have hlen:kvs.length=vs.length:=aK r
   exact wpAny_truthy_dict hS m ∅ ⟨H,I.tok _,by rw [Zm r];exact q⟩
 | _=>exact (show False from e).elim
theorem YQ (ha:PE X a ta) (he:∀whole,isTrue a X.env whole=(do let v <- whole;eY a.pos;dG [v] (sZ v))) :
  PT X a (λσ H Q=>ta σ H λx H'=>∃k,G8 X.K x H' k/\Q k H'):=by
 intro pins s σ H Q I h
 exact isTrue_plain (thn (ha pins s σ H _ I h) λv s1 ⟨x,H1,I1,r1,q1⟩=>Wk pins s1 σ H1 x v Q I1 r1 q1) (he _)
theorem yV {x:V}{us:List ag}(r:jC [x] us):∃u,us=[u]/\jE x u:=by
 cases r with
 | cons r1 r2=>cases r2;exact ⟨_,rfl,r1⟩
theorem Zq {x y:V}{us:List ag}(r:jC [x,y] us):∃u w',us=[u,w']/\jE x u/\jE y w':=by
 cases r with
 | cons r1 r2 =>
  cases r2 with
  | cons r3 r4=>cases r4;exact ⟨_,_,rfl,r1,r3⟩
theorem yh (hc:X.calm=true):xc X (.builtin "max") (λxs H Q=>∃i j,xs=[.int i,.int j]/\Q (.int (if j > i then j else i)) H):=by
 intro pins s σ H xs us Q I r h
 obtain ⟨i,j,rfl,q⟩:=h
 obtain ⟨u,w',rfl,⟨t,rfl⟩,⟨t',rfl⟩⟩:=Zq r
 refine max_two_ints (I.ok.hd hc) λh' tk k=>⟨_,H,I.kept k,?_,q⟩
 by_cases hj:j > i
 ·rw [if_pos hj,if_pos hj];exact ⟨_,rfl⟩
 ·rw [if_neg hj,if_neg hj];exact ⟨_,rfl⟩
theorem vo (hc:X.calm=true):xc X (.builtin "min") (λxs H Q=>∃i j,xs=[.int i,.int j]/\Q (.int (if j<i then j else i)) H):=by
 intro pins s σ H xs us Q I r h
 obtain ⟨i,j,rfl,q⟩:=h
 obtain ⟨u,w',rfl,⟨t,rfl⟩,⟨t',rfl⟩⟩:=Zq r
 refine min_two_ints (I.ok.hd hc) λh' tk k=>⟨_,H,I.kept k,?_,q⟩
 by_cases hj:j<i
 ·rw [if_pos hj,if_pos hj];exact ⟨_,rfl⟩
 ·rw [if_neg hj,if_neg hj];exact ⟨_,rfl⟩
end
end L2
namespace L2
structure ObjM (h:Heap) (x dx C:Addr) (mA:Str->Option ag):Prop where
 obj:h.get? x=some (cR C dx)
 ns:h.Ns1 dx mA
 ne:dx≠x
theorem ZX {h:Heap}{dx:Addr}{mA:Str->Option ag}(n:h.Ns1 dx mA):∃od,h.get? dx=some od/\∀name,iN name od=some (mA name):=by
 obtain ⟨o,es,ep,ho,hd,hk,_,hm⟩:=n
 refine ⟨o,ho,λname=>?_⟩
 have e:=hm name
 unfold nsFind findBy at e
 rw [<- Array.find?_toList] at e
 unfold iN
 rw [hd]
 dsimp only
 split
 ·rename_i y q
  rw [q] at e
  exact congrArg some e
 ·rename_i q
  rw [q] at e
  have a:es.toList.any (·.refKey)=false:=by
   rw [List.any_eq_false]
   intro y hy
   obtain ⟨z,t,hkey⟩:=hk y (Array.mem_toList_iff.mp hy)
   simp [DictEntry.refKey,hkey]
  have a':¬es.toList.any (·.refKey)=true:=by rw [a];exact au
  rw [if_neg a']
  exact congrArg some e
theorem ObjM.look {h:Heap}{x dx C:Addr}{mA:Str->Option ag}(I:ObjM h x dx C mA):∃od,PySem.W.InstAt h x (cR C dx) C (some od)/\∀name,iN name od=some (mA name) :=
 let ⟨od,ho,hl⟩:=ZX I.ns
 ⟨od,⟨I.obj,rfl,rfl,ho⟩,hl⟩
section
variable {prog:Program}{w:b9}{A:bj}{E:ag->Shared->Prop}{s:Shared}{K:ah}{x dx C f:Addr}{mA:Str->Option ag}{name:Str}{v:ag}
theorem UA {expr:Bool}{Q:ag->Shared->Prop}(X:K.In s.heap) (I:ObjM s.heap x dx C mA) (hg:eZ K C name=true) (hh:fI K C=true)
  (ha:bG K (.ref C) name=some none) (hv:mA name=some v) (hv':oX v=true) (h:Q v { s with toks:=s.toks+1 }) :
  ay (aD prog w) A (getAttr (.ref x) name expr) Q E s:=by
 obtain ⟨od,J,hl⟩:=I.look
 exact PySem.W.get_value X J (iE hg).1 (PySem.W.findObj_own hh ha rfl (by rw [hl,hv])) hv' h
theorem VY {pl:Sem Bool}{Q:ag×List ag->Shared->Prop}(X:K.In s.heap) (I:ObjM s.heap x dx C mA) (hg:eZ K C name=true)
  (hf:bG K (.ref C) name=some (some (.ref f))) (ht:og K (.ref f)=true) (hv:mA name=none) (h:Q (.ref f,[.ref x]) s) :
  ay (aD prog w) A (lL (.ref x) name pl) Q E s:=by
 obtain ⟨od,J,hl⟩:=I.look
 exact PySem.W.method_fn X J (iE hg).1 (iE hg).2 hf (beq_iff_eq.mp ht) (by show (iN name od).map (·.isSome)=some false;rw [hl,hv];rfl) h
theorem UY {ns:List Str}{Q:Unit->Shared->Prop}(X:K.In s.heap) (I:ObjM s.heap x dx C mA)
  (hs:bG K (.ref C) "__setattr__" = some (some (.builtin "object.__setattr__"))) (hp:lg K C=true) (ht:me K C name=some none) (hh:fI K C=true)
  (hw:o9 mA ns) (hsz:ns.length<=sizeLine)
  (h:∀h',ObjM h' x dx C (λy=>if y=name then some v else mA y)->dY dx s.heap h'->Q () { s with heap:=h',toks:=s.toks+2 }) :
  ay (aD prog w) A (setAttr (.ref x) name v) Q E s:=by
 obtain ⟨od,J,hl⟩:=I.look
 refine PySem.W.set_plain X J hs (PySem.W.osa_open (s:={ s with toks:=s.toks+1 }) (r:=none) X J hp ht λb=>?_)
 obtain ⟨cd,hc,hd'⟩:=PySem.W.any_some hh
 have hx:s.heap.get? x=some ⟨.ref C,some dx,.plain,#[]⟩:=I.obj
 refine ae (wpAny_pure (ae (ae (wpAny_loadPart hx (ae (PySem.W.Looks.here (s:={ s with toks:=s.toks+1 }) (PySem.W.looks_clsIn X hc) ?_))))))
 rw [hd']
 refine wpAny_pure (a:=some dx) (ae (wpAny_pure (ae ?_)))
 refine wpAny_nsSet1 (s:={ s with toks:=s.toks+1 }) I.ns λh' hn2 hs2=>?_
 obtain ⟨oD,esD,epD,hoD,hdD,hcD⟩:=hn2.count (PySem.Within.cons name v hw)
 refine ae (wpAny_lookBehind hoD (by rw [hdD];exact pastItsLine_dict (aF hcD (by rw [bb];omega))) ?_)
 exact wpAny_pure (h _ ⟨(hs2.2 _ (cj I.ne)).trans I.obj,hn2,I.ne⟩ hs2)
theorem YT {R:mH->Shared->Prop}{vs:List ag}{kw:List (Str×ag)}(X:K.In s.heap) (hm:mf K C=true)
  (hi:bG K (.ref C) "__init__" = some (some (.ref f))) (hf:PySem.W.typeIn K (.ref f)=some (.type "function"))
  (h:cO (aD prog w) (A.under (.builtin "type.__call__" ⟨.ref C::vs,kw⟩)) (.call (.ref f) ⟨.ref (s.heap.objs.size+1)::vs,kw⟩) (PySem.W.InitBack (s.heap.objs.size+1) R)
   { s with heap:=(s.heap.push c8).push (cR C s.heap.objs.size) }) :
  cO (aD prog w) A (.call (.ref C) ⟨vs,kw⟩) R s:=by
 obtain ⟨hh,g,d,t,os⟩:=s
 exact PySem.W.make_core (PySem.W.makes_of X hm) (PySem.W.looks_findIn X hi) (λself=>PySem.W.bind_fn X self hf) (.inl rfl) h
end
noncomputable def jr (f:Str) (v:V):List (Str×V)->List (Str×V)
 | []=>[(f,v)]
 | (g,x)::r=>if g=f then (g,v)::r else (g,x)::jr f v r
theorem jy (f g:Str) (v:V):∀fs:List (Str×V),(jr f v fs).lookup g=if g=f then some v else fs.lookup g
 | []=>by
  show dS g [(f,v)]=_
  by_cases h:g=f
  ·have hb:(g == f)=true:=beq_iff_eq.mpr h
   simp only [dS,hb,if_pos h]
  ·have hb:(g == f)=false:=beq_eq_false_iff_ne.mpr h
   simp only [dS,hb,if_neg h]
 | (k,x)::r=>by
  have ih:=jy f g v r
  rw [show jr f v ((k,x)::r)=(if k=f then (k,v)::r else (k,x)::jr f v r) from rfl]
  by_cases hk:k=f
  ·rw [if_pos hk]
   by_cases h:g=k
   ·have hb:(g == k)=true:=beq_iff_eq.mpr h
    simp only [dS,hb,if_pos (h.trans hk)]
   ·have hb:(g == k)=false:=beq_eq_false_iff_ne.mpr h
    simp only [dS,hb,if_neg (λe:g=f=>h (e.trans hk.symm))]
  ·rw [if_neg hk]
   by_cases h:g=k
   ·have hb:(g == k)=true:=beq_iff_eq.mpr h
    simp only [dS,hb,if_neg (λe:g=f=>hk (h.symm.trans e))]
   ·have hb:(g == k)=false:=beq_eq_false_iff_ne.mpr h
    simp only [dS,hb]
    exact ih
theorem uH (f:Str) (v:V):∀fs:List (Str×V),f∈(jr f v fs).map (·.1)/\∀g,g∈fs.map (·.1)->g∈(jr f v fs).map (·.1)
 | []=>⟨by simp [jr],λg h=>by simp at h⟩
 | (k,x)::r=>by
  obtain ⟨i1,i2⟩:=uH f v r
  rw [show jr f v ((k,x)::r)=(if k=f then (k,v)::r else (k,x)::jr f v r) from rfl]
  by_cases hk:k=f
  ·rw [if_pos hk]
   subst hk
   exact ⟨by simp,λg h=>by simpa using h⟩
  ·rw [if_neg hk]
   refine ⟨?_,λg h=>?_⟩
   ·rw [aN]
    exact aE _ i1
   ·rw [aN] at h ⊢
    rcases List.mem_cons.mp h with e | e
    ·exact List.mem_cons.mpr (.inl e)
    ·exact aE _ (i2 g e)
theorem qa (f:Str) (v:V):∀fs:List (Str×V),(jr f v fs).length<=fs.length+1
 | []=>by simp [jr]
 | (k,x)::r=>by
  have ih:=qa f v r
  rw [show jr f v ((k,x)::r)=(if k=f then (k,v)::r else (k,x)::jr f v r) from rfl]
  by_cases hk:k=f
  ·rw [if_pos hk,bb,bb];omega
  ·rw [if_neg hk,bb,bb];omega
theorem yG.some_of {v:V}{o:Option ag}(r:yG (some v) o):∃u,o=some u/\jE v u:=by
 cases o with
 | none=>exact (show False from r).elim
 | some u=>exact ⟨u,rfl,r⟩
theorem yG.none_of {o:Option ag}(r:yG none o):o=none:=by
 cases o with
 | none=>rfl
 | some u=>exact (show False from r).elim
theorem ZY {v:V}{u:ag}(r:jE v u):oX u=true:=by
 cases v with
 | non=>cases (show u=b8 from r);rfl
 | bl b=>cases (show u=lQ b from r);rfl
 | int i=>obtain ⟨t,e⟩:=(show ∃t,u=lF i t from r);cases e;rfl
 | str x=>obtain ⟨t,e⟩:=(show ∃t,u=mZ x t from r);cases e;rfl
 | byt b=>obtain ⟨t,e⟩:=(show ∃t,u=Value.bytes b t from r);cases e;rfl
 | flt b=>obtain ⟨t,e⟩:=(show ∃t,u=pE b t from r);cases e;rfl
 | ref a=>cases (show u=aS a from r);rfl
 | ty n=>cases (show u=i6 n from r);rfl
section
variable {P:Program}{w:b9}{H H':Hp}{h h':Heap}{a C dx:Addr}{fs fs':List (Str×V)}
theorem wA (hok:HOk P w H h) (e:H a=some (.ins C dx fs)):∃mA,ObjM h a dx C mA/\(∀f,yG (fs.lookup f) (mA f))/\o9 mA (fs.map (·.1))/\fs.length<=1000/\H dx=some (.own a):=by
 obtain ⟨d,z,ne,ob,mA,n,r,q⟩:=(show qi P w H h a (.ins C dx fs) from hok a _ e)
 exact ⟨mA,⟨ob,n,ne⟩,r,q,z,d⟩
end
structure Cls (K:ah) (C:Addr):Prop where
 pg:eZ K C Str.empty=true
 hd:fI K C=true
 po:lg K C=true
 sa:bG K (.ref C) "__setattr__" = some (some (.builtin "object.__setattr__"))
theorem Cls.get {K:ah}{C:Addr}(c:Cls K C) (f:Str):eZ K C f=true:=c.pg
noncomputable def zx (K:ah) (C:Addr) (f:Str):Prop:=bG K (.ref C) f=some none
theorem zx.taker {K:ah}{C:Addr}{f:Str}(n:zx K C f):me K C f=some none:=by
 unfold me
 rw [show bG K (.ref C) f=some none from n]
 rfl
structure Meth (K:ah) (C:Addr) (m:Str) (f:Addr):Prop where
 at_:bG K (.ref C) m=some (some (.ref f))
 fn:og K (.ref f)=true
 kp:bV K (.ref f)=true
section
variable {X:Cx}{pins:List (Addr×Obj)}{σ:St}{H:Hp}{s:Shared}{a C dx:Addr}{fs:List (Str×V)}{f:Str}{v:V}{A:bj}{E:ag->Shared->Prop}
theorem XR {b:Bool}{Q:ag->Shared->Prop}(I:Inv X pins σ H s) (e:H a=some (.ins C dx fs)) (c:Cls X.K C) (n:zx X.K C f) (l:fs.lookup f=some v)
  (h:∀u s',Inv X pins σ H s'->jE v u->Q u s'):ay (aD X.prog X.w) A (getAttr (.ref a) f b) Q E s:=by
 obtain ⟨mA,O,r,_,_,_⟩:=wA I.hok e
 obtain ⟨u,hu,ru⟩:=yG.some_of (v:=v) (o:=mA f) (by rw [<- l];exact r f)
 exact UA I.kIn O (c.get f) c.hd n hu (ZY ru) (h u _ (I.tok _) ru)
theorem vO {m:Str}{g:Addr}{pl:Sem Bool}{Q:ag×List ag->Shared->Prop}(I:Inv X pins σ H s) (e:H a=some (.ins C dx fs)) (c:Cls X.K C) (k:Meth X.K C m g) (l:fs.lookup m=none)
  (h:Q (.ref g,[.ref a]) s):ay (aD X.prog X.w) A (lL (.ref a) m pl) Q E s:=by
 obtain ⟨mA,O,r,_,_,_⟩:=wA I.hok e
 have hn:mA m=none:=yG.none_of (by rw [<- l];exact r m)
 exact VY I.kIn O (c.get m) k.at_ k.fn hn h
theorem Xw {y:V}{u:ag}{Q:Unit->Shared->Prop}(I:Inv X pins σ H s) (e:H a=some (.ins C dx fs)) (c:Cls X.K C) (n:zx X.K C f) (hl:fs.length<1000) (ry:jE y u)
  (h:∀s',Inv X pins σ (upd H a (.ins C dx (jr f y fs))) s'->Q () s'):ay (aD X.prog X.w) A (setAttr (.ref a) f u) Q E s:=by
 obtain ⟨mA,O,r,wi,_,ho⟩:=wA I.hok e
 have hz:(fs.map (·.1)).length<=sizeLine:=by rw [af,bA];omega
 refine UY I.kIn O c.sa c.po n.taker c.hd wi hz λh' O' sb=>h _ ?_
 have hd:∃o,h'.get? dx=some o:=let ⟨o,_,_,e',_⟩:=O'.ns;⟨o,e'⟩
 refine I.write (x:=a) (e:=dx) (by rw [e];exact cT) (.inr ho) (λb q hb z=>(sb.2 b hb).trans z) hd ?_
 refine ⟨by rw [j6 O.ne];exact ho,?_,O.ne,O'.obj,_,O'.ns,λg=>?_,λg hg=>?_⟩
 ·have:=qa f y fs;omega
 ·show yG ((jr f y fs).lookup g) (if g=f then some u else mA g)
  rw [jy]
  by_cases q:g=f
  ·rw [if_pos q,if_pos q];exact ry
  ·rw [if_neg q,if_neg q];exact r g
 ·by_cases q:g=f
  ·rw [q];exact (uH f y fs).1
  ·refine (uH f y fs).2 g (wi g λz=>hg ?_)
   show (if g=f then some u else mA g)=none
   rw [if_neg q];exact z
theorem Inv.made (I:Inv X pins σ H s):Inv X pins σ (upd (upd H s.heap.objs.size (.own (s.heap.objs.size+1))) (s.heap.objs.size+1) (.ins C s.heap.objs.size []))
  { s with heap:=(s.heap.push c8).push (cR C s.heap.objs.size) }:=by
 have e1:(s.heap.push c8).get? s.heap.objs.size=some c8:=az s.heap rfl
 have e2:((s.heap.push c8).push (cR C s.heap.objs.size)).get? (s.heap.objs.size+1)=some (cR C s.heap.objs.size):=by
  have:=az (s.heap.push c8) (o:=cR C s.heap.objs.size) rfl
  rwa [cv] at this
 have e3:(s.heap.push c8).Ns s.heap.objs.size (λ_=>none):=⟨c8,#[],_,e1,rfl,(λe he=>absurd he (by simp)),λ_=>rfl⟩
 have I1:=I.laid (a:=s.heap.objs.size) (o:=.own (s.heap.objs.size+1)) (h':=s.heap.push c8) (t':=s.toks) (λb u q=>ai _ q) (aq _) ⟨_,e1⟩
 refine I1.laid (a:=s.heap.objs.size+1) (o:=.ins C s.heap.objs.size []) (t':=s.toks) (λb u q=>ai _ q) (oi (cv _ _)) ?_
 have ne:s.heap.objs.size≠s.heap.objs.size+1:=aA (i7 _)
 refine ⟨by rw [j6 ne,j5],aC _,ne,e2,λ_=>none,(Heap.Ns1.of_empty e3).at λo q=>ai _ q,λ_=>cT,λy hy=>absurd rfl hy⟩
theorem UT {prog:Program}{w:b9}{env:Env}{e:Expr}{f:Str}{pos:Pos}{s:Shared}{Q:ag->Shared->Prop}(hb:dB e f env (eval e env)=eval e env)
  (h:ay (aD prog w) A (eval e env) (λo s₁=>ay (aD prog w) A (getAttr o f true) Q E s₁) E s):ay (aD prog w) A (eval (.Attribute e f pos) env) Q E s :=
 Attribute_any_ h (by rw [arm_eval_Attribute,hb])
end
noncomputable def GS (K:ah) (ta:TE) (f:Str):TE:=λσ H Q=>ta σ H λx H1=>∃a C dx fs v,x = .ref a/\H1 a=some (.ins C dx fs)/\Cls K C/\zx K C f/\fs.lookup f=some v/\Q v H1
noncomputable def Gv (K:ah) (ta tv:TE) (f:Str):TS:=λD σ H=>tv σ H λy H1=>ta σ H1 λx H2=>∃a C dx fs,x = .ref a/\H2 a=some (.ins C dx fs)/\Cls K C/\zx K C f/\fs.length<1000 /\
 D.nx σ (upd H2 a (.ins C dx (jr f y fs)))
section
variable {X:Cx}{o e value:Expr}{f:Str}{pos pos' tpos:Pos}{ta tv:TE}
theorem WB (he:PE X e ta) (hb:dB e f X.env (eval e X.env)=eval e X.env):PE X (.Attribute e f pos) (GS X.K ta f):=by
 intro pins s σ H Q I h
 refine UT hb (thn (he pins s σ H _ I h) λu s1 ⟨x,H1,I1,rx,a,C,dx,fs,v,ex,ea,c,n,l,q⟩=>?_)
 subst ex
 obtain rfl:u=aS a:=rx
 exact XR I1 ea c n l λu' s2 I2 ru=>⟨v,H1,I2,ru,q⟩
theorem WN (ha:PE X o ta) (hv:PE X value tv) (hs:iK value (some (.Attribute o f pos')) pos.line X.env=pure false):PS X (.Assign [.Attribute o f pos'] value pos) (Gv X.K ta tv f):=by
 intro pins s σ H D I h
 refine plainObj_wpAny_Assign_Attribute (thn (hv pins s σ H _ I h) λu s1 ⟨y,H1,I1,ry,q⟩=>thn (ha pins s1 σ H1 _ I1 q) λov s2 ⟨x,H2,I2,rx,a,C,dx,fs,ex,ea,c,n,l,q2⟩=>?_) hs
 subst ex
 obtain rfl:ov=aS a:=rx
 exact Xw I2 ea c n l ry λs3 I3=>⟨σ,_,I3,q2⟩
theorem Wi {pl:Sem Bool}{m:Str}{apos:Pos}{args:List Expr}{pins:List (Addr×Obj)}{s:Shared}{σ:St}{H:Hp}{Q:ag->Shared->Prop}{te:TE}(he:PE X e te) (I:Inv X pins σ H s)
  (h:te σ H λx H1=>∃a C dx fs g,x = .ref a/\H1 a=some (.ins C dx fs)/\Cls X.K C/\Meth X.K C m g/\fs.lookup m=none /\
   ∀s1,Inv X pins σ H1 s1->ay (aD X.prog X.w) X.A (oj pos (.ref g) [.ref a] (cH pos (aO args X.env)) (iO pos (eP [] X.env))) Q X.xe s1)
  (ht:eval (.Call (.Attribute e m apos) args [] pos) X.env=(do
   let ov <- eval e X.env
   eY apos.atName
   let (f,first) <- dG [ov] (lL ov m pl)
   oj pos f first (cH pos (aO args X.env)) (iO pos (eP [] X.env)))) :
  ay (aD X.prog X.w) X.A (eval (.Call (.Attribute e m apos) args [] pos) X.env) Q X.xe s:=by
 refine i4 (pl:=pl) (thn (he pins s σ H _ I h) λu s1 ⟨x,H1,I1,rx,a,C,dx,fs,g,ex,ea,c,k,l,q⟩=>?_) ht
 subst ex
 obtain rfl:u=aS a:=rx
 exact vO I1 ea c k l (q s1 I1)
end
section
variable {X:Cx}{pins:List (Addr×Obj)}{σ:St}{H:Hp}{s:Shared}{A:bj}{E:ag->Shared->Prop}{Q:ag->Shared->Prop}{c:ag}{b:Bool}
inductive TyOf (K:ah) (H:Hp):V->ag->Prop where
 | non:TyOf K H .non (.type "NoneType")
 | bl (x:Bool):TyOf K H (.bl x) (.type "bool")
 | int (i:Int):TyOf K H (.int i) (.type "int")
 | str (x:Str):TyOf K H (.str x) (.type "str")
 | flt (x:UInt64):TyOf K H (.flt x) (.type "float")
 | lst {a:Addr} {xs:List V} (e:H a=some (.lst xs)):TyOf K H (.ref a) (.type "list")
 | frz {a:Addr} {o:Obj} {xs:List V} (e:H a=some (.frz o (.lst xs))):TyOf K H (.ref a) (.type "list")
 | tup {a:Addr} {xs:List V} (e:H a=some (.tup xs)):TyOf K H (.ref a) (.type "tuple")
 | dK {a:Addr} {kvs:List (Key×V)} (e:H a=some (.dK kvs)):TyOf K H (.ref a) (.type "dict")
 | dT {a:Addr} {kvs:List (List Key×V)} (e:H a=some (.dT kvs)):TyOf K H (.ref a) (.type "dict")
 | ins {a C dx:Addr} {fs:List (Str×V)} (e:H a=some (.ins C dx fs)) (cl:Cls K C) (ha:bG K (.ref C) "__class__" = some (some (.builtin "object.__class__")))
   (hn:PySem.W.specialIn K (.builtin "object.__class__") "__get__" = some (some (.builtin "getset_descriptor.__get__"))) (htk:PySem.W.takesIn K (.builtin "object.__class__")=some true)
   (hm:PySem.W.mroIn K C (.type "object")=some true):TyOf K H (.ref a) (.ref C)
theorem YD {x:V}{u t:ag}(I:Inv X pins σ H s) (rx:jE x u) (ty:TyOf X.K H x t) (e:bx X.K t c=some b) (h:∀tk,Q (.bool b) { s with toks:=tk }) :
  ay (aD X.prog X.w) A (call (.builtin "isinstance") [u,c]) Q E s:=by
 cases ty with
 | non=>cases (show u=b8 from rx);exact c6 PySem.W.kitx_none I.kIn cT e (λz=>nomatch z) h
 | bl y=>cases (show u=lQ y from rx);exact c6 PySem.W.kitx_bool I.kIn cT e (λz=>nomatch z) h
 | int i=>obtain ⟨t,q⟩:=(show ∃t,u=lF i t from rx);cases q;exact c6 PySem.W.kitx_int I.kIn cT e (λz=>nomatch z) h
 | str y=>obtain ⟨t,q⟩:=(show ∃t,u=mZ y t from rx);cases q;exact c6 PySem.W.kitx_str I.kIn cT e (λz=>nomatch z) h
 | flt y=>obtain ⟨t,q⟩:=(show ∃t,u=pE y t from rx);cases q;exact c6 PySem.W.kitx_float I.kIn cT e (λz=>nomatch z) h
 | @lst a xs ea =>
  cases (show u=aS a from rx)
  obtain ⟨_,_,n,_,h1⟩:=(show qi X.prog X.w H s.heap a (.lst xs) from I.hok a _ ea)
  exact c6 om I.kIn ⟨_,h1,rfl⟩ e (λz=>nomatch z) h
 | @frz a ob xs ea =>
  cases (show u=aS a from rx)
  obtain ⟨_,_,_,n,_,h1⟩:=(show qi X.prog X.w H s.heap a (.frz ob (.lst xs)) from I.hok a _ ea)
  exact c6 om I.kIn ⟨_,h1,rfl⟩ e (λz=>nomatch z) h
 | @tup a xs ea =>
  cases (show u=aS a from rx)
  obtain ⟨_,_,_,p⟩:=(show qi X.prog X.w H s.heap a (.tup xs) from I.hok a _ ea)
  obtain ⟨o,h1,h2,_⟩:=p
  exact c6 PySem.W.kitx_tuple I.kIn ⟨o,h1,h2⟩ e (λz=>nomatch z) h
 | @dK a kvs ea =>
  cases (show u=aS a from rx)
  obtain ⟨_,_,vs,_,p⟩:=(show qi X.prog X.w H s.heap a (.dK kvs) from I.hok a _ ea)
  obtain ⟨o,es,ep,h1,h2,_⟩:=p
  exact c6 oo I.kIn ⟨o,h1,h2.1⟩ e (λz=>nomatch z) h
 | @dT a kvs ea =>
  cases (show u=aS a from rx)
  obtain ⟨_,_,xs,_,o,es,ep,h1,h2,_⟩:=(show qi X.prog X.w H s.heap a (.dT kvs) from I.hok a _ ea)
  exact c6 oo I.kIn ⟨o,h1,h2.1⟩ e (λz=>nomatch z) h
 | @ins a C dx fs ea cl ha hn htk hm =>
  cases (show u=aS a from rx)
  obtain ⟨mA,O,_⟩:=wA I.hok ea
  obtain ⟨od,J,_⟩:=O.look
  exact c6 (PySem.W.kitx_own (cl.get _) cl.hd ha hn htk hm) I.kIn J e (λz=>nomatch z) h
end
end L2
namespace L2
structure Room (k:Nat) (A:bj):Prop where
 hd:A.handled=none
 dp:A.depth+3*k+5<recursionLimit
 un:A.units+16*k+200<cLine
theorem Room.mono {j k:Nat}{A:bj}(r:Room k A) (h:j<=k):Room j A:=⟨r.hd,by have:=r.dp;omega,by have:=r.un;omega⟩
theorem Room.deeper {k:Nat}{A:bj}(r:Room (k+1) A) (env:Env):Room k (A.deeper env) :=
 ⟨r.hd,by have:=r.dp;show A.depth+1+3*k+5<_;omega,by have:=r.un;show A.units+3+16*k+200<_;omega⟩
theorem Room.in1 {k:Nat}{A:bj}(r:Room (k+1) A):Room k A.in1 :=
 ⟨r.hd,by have:=r.dp;show A.depth+3*k+5<_;omega,by have:=r.un;show A.units+1+16*k+200<_;omega⟩
theorem Zc {A:bj}{C:Addr}{us:List ag}{kw:List (Str×ag)}:(A.under (.builtin "type.__call__" ⟨.ref C::us,kw⟩)).depth=A.depth+1:=by
 first | rfl | simp [oq,Code.weight,Code.isCreation,Code.isGuard,Code.isCaller,Code.frames,ou,guardIds]
theorem Z5 {A:bj}{C:Addr}{us:List ag}{kw:List (Str×ag)}:(A.under (.builtin "type.__call__" ⟨.ref C::us,kw⟩)).units=A.units+1:=by
 first | rfl | simp [oq,Code.cUnits,Code.frames,ou]
theorem Room.make {k:Nat}{A:bj}(r:Room (k+1) A) (C:Addr) (us:List ag) (kw:List (Str×ag)):Room k (A.under (.builtin "type.__call__" ⟨.ref C::us,kw⟩)) :=
 ⟨r.hd,by have:=r.dp;rw [Zc];omega,by have:=r.un;rw [Z5];omega⟩
theorem Room.depth {k:Nat}{A:bj}(r:Room k A):A.depth<recursionLimit:=by have:=r.dp;omega
theorem Room.units {k:Nat}{A:bj}(r:Room k A):A.units+64<cLine:=by have:=r.un;omega
noncomputable def gg:TA:=λ_ H Q=>Q [] H
noncomputable def GZ (ta:TE) (tr:TA):TA:=λσ H Q=>ta σ H λx H1=>tr σ H1 λxs H2=>Q (x::xs) H2
section
variable {X:Cx}{e:Expr}{es:List Expr}{te:TE}{t:TA}{pos:Pos}
theorem j2:PA X [] gg:=λ_ _ _ _ H Q I h=>ow ⟨[],H,I,.nil,h⟩
theorem j0 (ha:PE X e te) (hr:PA X es t) (hs:aO (e::es) X.env=(false,eval e X.env)::aO es X.env:=by rfl):PA X (e::es) (GZ te t):=by
 intro pos pins s σ H Q I h
 rw [hs]
 show ay _ _ (spliced ((false,eval e X.env)::cH pos (aO es X.env))) _ _ s
 refine iP (thn (ha pins s σ H _ I h) λu s1 ⟨x,H1,I1,r1,q1⟩=>?_)
 exact thn (hr pos pins s1 σ H1 _ I1 q1) λus s2 ⟨xs,H2,I2,r2,q2⟩=>⟨x::xs,H2,I2,.cons r1 r2,q2⟩
end
noncomputable abbrev Sp:=List V->Hp->VK->XK->Prop
noncomputable abbrev CXT:=List Env->Hp->Shared->XK->ag->Shared->Prop
structure Env0 (P:Program) (w:b9) (K:ah) (mg:Str->Option ag) (base:Heap) (A:bj) (outer:List Env) (s:Shared) (H:Hp):Prop where
 frames:A.frames=some outer
 mod:Mod K mg base
 bs:∀b o,base.get? b=some o->s.heap.get? b=some o/\H b=none
 bsz:base.objs.size<=s.heap.objs.size
 funs:s.heap.FunFrames base outer
 frf:∀b∈frs outer,H b=none
 hok:HOk P w H s.heap
 bare:i9 s.gens
noncomputable def CE (outer:List Env) (P:Program) (w:b9) (H:Hp) (s:Shared) (Q:VK) (u:ag) (s':Shared):Prop :=
 ∃v H',s'.os=s.os/\i9 s'.gens/\Un (frs outer) [] H H' s.heap s'.heap/\HOk P w H' s'.heap/\jE v u/\Q v H'
noncomputable def CR (CX:CXT) (outer:List Env) (P:Program) (w:b9) (H:Hp) (s:Shared) (Q:VK) (E:XK) (r:mH) (s':Shared):Prop :=
 match r with
 | .ok (.ret u)=>CE outer P w H s Q u s'
 | .ok _=>False
 | .error e=>CX outer H s E e s'
structure FnOk (P:Program) (w:b9) (K:ah) (mg:Str->Option ag) (base:Heap) (CX:CXT) (k:Nat) (f:Addr) (fd:FuncData) (ps:List Str) (sp:Sp):Prop where
 len:∀vs H Q E,sp vs H Q E->vs.length=ps.length
 run:∀(A:bj) (outer:List Env) (s:Shared) (H:Hp) (args:Args) (us:List ag) (vs:List V) (Q:VK) (E:XK),Room k A->Env0 P w K mg base A outer s H->pU s fd args (ps.zip us)->jC vs us->sp vs H Q E ->
  cO (aD P w) A (.call (.ref f) args) (CR CX outer P w H s Q E) s
theorem Env0.make {P:Program}{w:b9}{K:ah}{mg:Str->Option ag}{base:Heap}{A:bj}{outer:List Env}{s:Shared}{H:Hp}(e:Env0 P w K mg base A outer s H) (C:Addr) (us:List ag) (kw:List (Str×ag)) :
  Env0 P w K mg base (A.under (.builtin "type.__call__" ⟨.ref C::us,kw⟩)) outer s H:=⟨by first | exact e.frames | (simpa [oq,Code.envs,ou,pushEnvs] using e.frames),e.mod,e.bs,e.bsz,e.funs,e.frf,e.hok,e.bare⟩
theorem Env0.in1 {P:Program}{w:b9}{K:ah}{mg:Str->Option ag}{base:Heap}{A:bj}{outer:List Env}{s:Shared}{H:Hp}(e:Env0 P w K mg base A outer s H) :
  Env0 P w K mg base A.in1 outer s H:=⟨e.frames,e.mod,e.bs,e.bsz,e.funs,e.frf,e.hok,e.bare⟩
section
variable {X:Cx}{pins:List (Addr×Obj)}{σ:St}{H:Hp}{s s':Shared}
theorem Inv.env0 (I:Inv X pins σ H s):Env0 X.prog X.w X.K X.mg X.base X.A X.stack s H :=
 ⟨I.ok.frames,I.ok.mod,I.bs,aF I.ok.bsz I.sz,I.stack,I.stkFree,I.hok,I.bare⟩
theorem Inv.after {Q:VK}{u:ag}(I:Inv X pins σ H s) (h:CE X.stack X.prog X.w H s Q u s'):EP X pins σ Q u s':=by
 obtain ⟨v,H',os,bare,un,hok,r,q⟩:=h
 obtain ⟨hh,g,d,t,os'⟩:=s'
 obtain rfl:os'=s.os:=os
 exact ⟨v,H',I.call (h':=hh) (g':=g) (d':=d) (t':=t) (ch:=[]) un hok bare (λb z=>absurd z (by simp)),r,q⟩
end
noncomputable def Wc (sp:Sp) (dvs:List V) (E:XK) (t:TA):TE:=λσ H Q=>t σ H λvs H1=>sp (vs++dvs) H1 Q E
noncomputable def Wj (C:Addr) (m:Str) (sp:Sp) (dvs:List V) (E:XK) (ta:TE) (t:TA):TE:=λσ H Q=>ta σ H λx H1=>∃a dx fs,x = .ref a/\H1 a=some (.ins C dx fs)/\fs.lookup m=none /\
 t σ H1 λvs H2=>sp (x::(vs++dvs)) H2 Q E
noncomputable def yE (K:ah) (fd:FuncData) (ps:List Str) (ds:List ag):Prop :=
 ∀(s:Shared) (us:List ag),K.In s.heap->(us++ds).length=ps.length->pU s fd ⟨us,[]⟩ (ps.zip (us++ds))
theorem yE.all {K:ah}{fd:FuncData}{ps:List Str}(h:∀us:List ag,us.length=ps.length->cw fd ⟨us,[]⟩=pure (ps.zip us)):yE K fd ps []:=λs us _ hl=>by
 rw [aM] at hl ⊢
 exact .of_eq (h us hl)
noncomputable def JZ (CX:CXT) (X:Cx) (E:XK):Prop:=∀(pins:List (Addr×Obj)) (σ:St) (H:Hp) (s:Shared) (e:ag) (s':Shared),Inv X pins σ H s->CX X.stack H s E e s'->X.xe e s'
section
variable {X:Cx}{CX:CXT}{k:Nat}{f C:Addr}{fd:FuncData}{ps:List Str}{sp:Sp}{dvs:List V}{ds:List ag}{E:XK}{x m:Str}{p pos apos:Pos}{e o:Expr}{es:List Expr}{ta:TE}{t:TA}
theorem V2 {pins:List (Addr×Obj)}{σ:St}{H:Hp}{s:Shared}{Q:VK}{us:List ag}{vs:List V}(F:FnOk X.prog X.w X.K X.mg X.base CX k f fd ps sp) (hr:Room k X.A) (hb:yE X.K fd ps ds) (hd:jC dvs ds) (hx:JZ CX X E)
  (I:Inv X pins σ H s) (r:jC vs us) (h:sp (vs++dvs) H Q E):ay (aD X.prog X.w) X.A (call (.ref f) us) (EP X pins σ Q) X.xe s:=by
 have r2:jC (vs++dvs) (us++ds):=r.append hd
 have hl:(us++ds).length=ps.length:=by rw [<- r2.length];exact F.len _ _ _ _ h
 refine lT (dz (F.run X.A X.stack s H ⟨us,[]⟩ (us++ds) (vs++dvs) Q E hr I.env0 (hb s us I.kIn hl) r2 h) λr s' hq=>?_)
 cases r with
 | error e=>exact hx pins σ H s e s' I hq
 | ok fl =>
  cases fl with
  | ret u=>exact I.after hq
  | next=>exact bC hq
  | brk=>exact bC hq
  | cont=>exact bC hq
theorem UL (F:FnOk X.prog X.w X.K X.mg X.base CX k f fd ps sp) (hr:Room k X.A) (hg:Gl X x) (hm:X.mg x=some (.ref f)) (hk:bV X.K (.ref f)=true) (hb:yE X.K fd ps ds) (hd:jC dvs ds) (hx:JZ CX X E)
  (ha:PA X (e::es) t) (hdb:(x == ("__debug__" : Str))=false:=by decide) (he:aO (e::es) X.env=(false,eval e X.env)::aO es X.env:=by rfl) (hpl:(cH pos (aO es X.env)).any (·.1)=false:=by rfl) :
  PE X (.Call (.Name x p) (e::es) [] pos) (Wc sp dvs E t):=by
 intro pins s σ H Q I h
 refine de (uc I hg hm ?_ hdb)
 refine dZ (h₀:=X.base) I.ok.mod.kin hk (thn (ha pos pins s σ H _ I h) λus s1 ⟨vs,H1,I1,r,q⟩=>⟨I1.kIn,?_⟩) he hpl
 exact V2 F hr hb hd hx I1 r q
theorem Ut {pl:Sem Bool}(he:PE X o ta) (c:Cls X.K C) (hm:Meth X.K C m f) (F:FnOk X.prog X.w X.K X.mg X.base CX k f fd ps sp) (hr:Room k X.A) (hb:yE X.K fd ps ds) (hd:jC dvs ds) (hx:JZ CX X E) (ha:PA X (e::es) t)
  (hst:aO (e::es) X.env=(false,eval e X.env)::aO es X.env:=by rfl) (hpl:(cH pos (aO es X.env)).any (·.1)=false:=by rfl)
  (ht:eval (.Call (.Attribute o m apos) (e::es) [] pos) X.env=(do
   let ov <- eval o X.env
   eY apos.atName
   let (f,first) <- dG [ov] (lL ov m pl)
   oj pos f first (cH pos (aO (e::es) X.env)) (iO pos (eP [] X.env))):=by rfl) :
  PE X (.Call (.Attribute o m apos) (e::es) [] pos) (Wj C m sp dvs E ta t):=by
 intro pins s σ H Q I h
 refine i4 (pl:=pl) (thn (he pins s σ H _ I h) λu s1 ⟨x,H1,I1,rx,a,dx,fs,ex,ea,l,q⟩=>?_) ht
 subst ex
 obtain rfl:u=aS a:=rx
 refine vO I1 ea c hm l ?_
 refine dZ (first:=[.ref a]) (h₀:=X.base) I.ok.mod.kin hm.kp (thn (ha pos pins s1 σ H1 _ I1 q) λus s2 ⟨vs,H2,I2,r,q2⟩=>⟨I2.kIn,?_⟩) hst hpl
 exact V2 (us:=.ref a::us) (vs:=.ref a::vs) F hr hb hd hx I2 (.cons rfl r) q2
structure Mk (K:ah) (C f:Addr):Prop where
 makes:mf K C=true
 init:bG K (.ref C) "__init__" = some (some (.ref f))
 fn:og K (.ref f)=true
 kp:bV K (.ref C)=true
end
section
variable {X:Cx}{CX:CXT}{k:Nat}{f C:Addr}{fd:FuncData}{ps ks:List Str}{sp:Sp}{E:XK}{x m:Str}{p pos apos kpos:Pos}{e o:Expr}{es:List Expr}{kws:List lU}{te ta:TE}{t tk:TA}{nm:Option Str}
variable {g:List ag->List ag->List ag}{gV:List V->List V->List V}
end
structure FnScope (N P:List Str) (sc:Scope):Prop where
 kind:sc.kind = .function
 co:sc.isCoroutine=false
 gen:sc.isGenerator=false
 nd:N.Nodup
 pre:N.take P.length=P
 par:∀x∈P,sc.names.lookup x=some .local\/sc.names.lookup x=some .cell
 nofree:∀y∈sc.names,y.2≠.free
theorem gR {kindOf:Str->Option fJ}{x:Str}:∀{binds:List (Str×ag)}{m:Str->Option ag},(∀v,(x,v)∉binds)->rA kindOf binds m x=m x
 | [],_,_=>rfl
 | (n,v)::r,m,h=>by
  unfold rA
  rw [gR λw hw=>h w (aE _ hw)]
  split
  ·have:x≠n:=by rintro rfl;exact h v aI
   simp [this]
  ·rfl
theorem Jj {kindOf:Str->Option fJ}{x:Str}:∀{binds:List (Str×ag)}{m:Str->Option ag},(∀v,(x,v)∉binds)->rC kindOf binds m x=m x
 | [],_,_=>rfl
 | (n,v)::r,m,h=>by
  unfold rC
  rw [Jj λw hw=>h w (aE _ hw)]
  split
  ·rfl
  ·have:x≠n:=by rintro rfl;exact h v aI
   simp [this]
theorem gK {kindOf:Str->Option fJ}{x:Str}{v:ag}:∀{P:List Str}{vs:List ag}{i:Nat}{m:Str->Option ag},P.Nodup->P[i]? = some x->vs[i]? = some v->kindOf x=some .local ->
  rA kindOf (P.zip vs) m x=some v
 | [],_,_,_,_,h,_,_=>by simp at h
 | _::_,[],_,_,_,_,h,_=>by simp at h
 | p::P,w::vs,0,m,nd,h1,h2,hk=>by
  simp at h1 h2;subst h1;subst h2
  show rA kindOf ((p,w)::P.zip vs) m p=_
  unfold rA
  rw [gR λv hv=>(List.nodup_cons.mp nd).1 (iq hv).1,if_pos hk]
  simp
 | p::P,w::vs,i+1,m,nd,h1,h2,hk=>by
  show rA kindOf ((p,w)::P.zip vs) m x=_
  unfold rA
  exact gK (i:=i) (List.nodup_cons.mp nd).2 (by simpa using h1) (by simpa using h2) hk
theorem J5 {kindOf:Str->Option fJ}{x:Str}{v:ag}:∀{P:List Str}{vs:List ag}{i:Nat}{m:Str->Option ag},P.Nodup->P[i]? = some x->vs[i]? = some v->kindOf x≠some .local ->
  rC kindOf (P.zip vs) m x=some v
 | [],_,_,_,_,h,_,_=>by simp at h
 | _::_,[],_,_,_,_,h,_=>by simp at h
 | p::P,w::vs,0,m,nd,h1,h2,hk=>by
  simp at h1 h2;subst h1;subst h2
  show rC kindOf ((p,w)::P.zip vs) m p=_
  unfold rC
  rw [Jj λv hv=>(List.nodup_cons.mp nd).1 (iq hv).1,if_neg hk]
  simp
 | p::P,w::vs,i+1,m,nd,h1,h2,hk=>by
  show rC kindOf ((p,w)::P.zip vs) m x=_
  unfold rC
  exact J5 (i:=i) (List.nodup_cons.mp nd).2 (by simpa using h1) (by simpa using h2) hk
noncomputable def start (N:List Str) (vs:List V):St:=vs.map some++df (N.length-vs.length) none
noncomputable def vW (CX:CXT) (P:Program) (w:b9) (K:ah) (mg:Str->Option ag) (base:Heap) (N:List Str) (qual:Str) (scope:Scope) (f:Addr) (cd:ag) (A:bj) (outer:List Env) (s:Shared) (H:Hp) (E:XK):Cx where
 prog:=P
 w:=w
 K:=K
 mg:=mg
 base:=base
 A:=A.deeper (lu qual scope s.heap.objs.size f cd)
 N:=N
 s₀:=s
 H₀:=H
 env:=lu qual scope s.heap.objs.size f cd
 outer:=outer
 stack:=lu qual scope s.heap.objs.size f cd::outer
 ex:=[]
 calm:=true
 fn:=λ_=>true
 pn:=[]
 xe:=λe s'=>ay (aD P w) (A.deeper (lu qual scope s.heap.objs.size f cd)) (n5 (lu qual scope s.heap.objs.size f cd) e) (λ_ s''=>CX outer H s E e s'') (λe' s''=>CX outer H s E e' s'') s'
theorem QL {sc:Scope}{n:Nat}{x:Str}(h:sc.names.lookup x=some .cell):∃c,(oY n sc.names []).lookup x=some c:=by
 have q:=fK sc.names n [] (.inl h)
 exact Option.isSome_iff_exists.mp q
theorem Jb {CX:CXT}{P:Program}{w:b9}{K:ah}{mg:Str->Option ag}{base:Heap}{N ps:List Str}{qual:Str}{scope:Scope}{f:Addr}{cd:ag}{A:bj}{outer:List Env}{s s1:Shared}{H:Hp}{E:XK}{us:List ag}{vs:List V}
  (S:FnScope N ps scope) (hd:A.handled=none) (e0:Env0 P w K mg base A outer s H) (hl:vs.length=ps.length) (r:jC vs us)
  (x:InCallC s s.heap.objs.size (rA (lu qual scope s.heap.objs.size f cd).kindOf (ps.zip us) λ_=>none) (oY (s.heap.objs.size+1) scope.names []) (rC (lu qual scope s.heap.objs.size f cd).kindOf (ps.zip us) λ_=>none) s1) :
  Inv (vW CX P w K mg base N qual scope f cd A outer s H E) [] (start N vs) H s1:=by
 have hpl:ps.length<=N.length:=by have:=congrArg lh S.pre;rw [aJ] at this;omega
 obtain ⟨h1,tk,rfl,hk⟩:=x.done
 have noA:∀b:Addr,b∉(vW CX P w K mg base N qual scope f cd A outer s H E).ex:=λb z=>absurd (show b∈([]:List Addr) from z) (by simp)
 refine ⟨⟨e0.mod,S.kind,rfl,rfl,aq _,λy z c h1 h2=>?_,λy hy=>?_,λy c _ h=>?_,λ_=>hd,Around.frames_deeper e0.frames,.inr ⟨rfl,rfl⟩,λb z=>absurd z (noA b),e0.bs,e0.bsz,λb _ _=>noA b,λb z=>absurd z (noA b),e0.funs,e0.frf⟩,
  rfl,e0.bare,Un.kept hk,⟨_,x.toInCall.ns,λi y v h1 h2 h3=>?_⟩,λy c h=>⟨_,x.cell y c h⟩,e0.hok.fresh (aq _),λy c h=>?_,λp hp=>absurd (show p∈([]:List (Addr×Obj)) from hp) (by simp),e0.hok.kept hk,?_⟩
 ·exact name_of_addr x.apart (cV h1) (cV h2)
 ·have hy:scope.names.lookup y=some .cell\/scope.names.lookup y=some .free:=hy
  rcases hy with hy | hy
  ·exact QL hy
  ·exact absurd rfl (S.nofree _ (cV hy))
 ·exact eV (x.above y c (cV h))
 ·have hi:i<vs.length:=by
   unfold start at h2
   by_cases hi:i<vs.length
   ·exact hi
   ·rw [c5 (by simpa using hi)] at h2
    rw [lM] at h2
    split at h2 <;> cases h2
  have ha:vs[i]? = some v:=by
   unfold start at h2
   rw [cI (by simpa using hi),av] at h2
   cases e:vs[i]? with
   | none=>rw [e] at h2;cases h2
   | some a=>rw [e] at h2;cases h2;rfl
  obtain ⟨u,hu,rv⟩:=r.get ha
  have hp:ps[i]? = some y:=by
   rw [<- S.pre,List.getElem?_take_of_lt ∅];exact h1
  have ndP:ps.Nodup:=by rw [<- S.pre];exact S.nd.sublist (oz _ _)
  refine ⟨u,rv,?_⟩
  rcases S.par y (ax hp) with k | k
  ·exact .inl ⟨k,gK ndP hp hu k⟩
  ·obtain ⟨c,e⟩:=QL (n:=s.heap.objs.size+1) k
   refine .inr ⟨.inl k,c,e,?_⟩
   have q:=x.cell y c e
   rw [J5 ndP hp hu (by show scope.names.lookup y≠_;rw [k];decide)] at q
   exact q
 ·exact e0.hok.fresh (eV (x.above y c (cV h)))
 ·unfold start
  show _=N.length
  rw [ak,af,eL]
  omega
theorem Vu {CX:CXT}{P:Program}{w:b9}{K:ah}{mg:Str->Option ag}{base:Heap}{k:Nat}{f:Addr}{name qual:Str}{params:Arguments}{body:List Stmt}{scope:Scope}{dV kV doc pm cdv ct oc:ag}{an od:Option Addr}
  {osl:Array (Option ag)} {N ps:List Str} {sp:Sp} (lk:K.lookup f=some ⟨oc,od,.func (bD name qual params body scope dV kV doc pm an cdv ct),osl⟩) (hcd:cx K cdv qual=true) (S:FnScope N ps scope)
  (len:∀vs H Q E,sp vs H Q E->vs.length=ps.length)
  (hbody:∀(A:bj) (outer:List Env) (s:Shared) (H:Hp) (vs:List V) (Q:VK) (E:XK),Room k (A.deeper (lu qual scope s.heap.objs.size f cdv))->sp vs H Q E ->
   ∃t,PSs (vW CX P w K mg base N qual scope f cdv A outer s H E) body t/\t { nx:=λ_ H'=>Q .non H',rt:=Q } (start N vs) H) :
  FnOk P w K mg base CX (k+1) f (bD name qual params body scope dV kV doc pm an cdv ct) ps sp:=by
 refine ⟨len,λA outer s H args us vs Q E hr e0 hb r hsp=>?_⟩
 have hl:=len _ _ _ _ hsp
 have KX:K.In s.heap:=e0.mod.kin.keeps λb o e=>(e0.bs b o e).1
 have lim:s.heap.NoLimit:=e0.mod.nolimit.keeps λb o e=>(e0.bs b o e).1
 have hkind:∀y∈ps.zip us,scope.names.lookup y.1=some .local\/(scope.names.lookup y.1=some .cell/\((oY (s.heap.objs.size+1) scope.names []).lookup y.1).isSome=true):=λ⟨n,v⟩ hy=>by
  rcases S.par n (iq hy).1 with q | q
  ·exact .inl q
  ·exact .inr ⟨q,fK _ _ _ (.inl q)⟩
 refine codeAny_call_function hr.depth (KX _ _ lk) rfl S.co S.gen rfl (PySem.W.codeRec_of KX hcd) (hb _ _ _ _ ?_)
 refine iQ S.kind hkind λenv he s1 x=>?_
 subst he
 refine ⟨lim.keeps x.toInCall.keep,codeAny_func ?_⟩
 obtain ⟨t,ht,hq⟩:=hbody A outer s H vs Q E (hr.deeper _) hsp
 have I:Inv (vW CX P w K mg base N qual scope f cdv A outer s H E) [] (start N vs) H s1:=Jb S hr.hd e0 hl r x
 refine ba (ht [] s1 (start N vs) H _ I hq) (λfl s' hs=>?_) λe s' hs=>hs
 have fin:∀{σ':St} {H':Hp} {v:V} {u:ag},Inv (vW CX P w K mg base N qual scope f cdv A outer s H E) [] σ' H' s'->jE v u->Q v H'->CE outer P w H s Q u s' :=
  λ{σ' H' v u} J rv q=>⟨v,H',J.os,J.bare,J.base,J.hok,rv,q⟩
 cases fl with
 | ret u =>
  obtain ⟨v,σ',H',J,rv,q⟩:=hs
  exact fin J rv q
 | next =>
  obtain ⟨σ',H',J,q⟩:=hs
  exact fin (v:=V.non) (u:=b8) J rfl q
 | brk =>
  obtain ⟨_,_,_,q⟩:=hs
  exact bC q
 | cont =>
  obtain ⟨_,_,_,q⟩:=hs
  exact bC q
end L2
namespace L2
section
variable {X:Cx}{x:Str}{p pos:Pos}{e:Expr}{es:List Expr}{t:TA}{id T:String}{r:List V->Hp->VK->Prop}
noncomputable def tCB (r:List V->Hp->VK->Prop) (t:TA):TE:=λσ H Q=>t σ H λvs H1=>r vs H1 Q
theorem jf (hc:xc X (.builtin id) r) (hg:Gl X x) (hm:X.mg x=none) (hv:fF x=some (.builtin id)) (ha:PA X (e::es) t) (hn:x ≠ "__name__":=by decide) (hdb:(x == ("__debug__" : Str))=false:=by decide)
  (he:aO (e::es) X.env=(false,eval e X.env)::aO es X.env:=by rfl) (hpl:(cH pos (aO es X.env)).any (·.1)=false:=by rfl):PE X (.Call (.Name x p) (e::es) [] pos) (tCB r t):=by
 intro pins s σ H Q I h
 refine de (yq I hg hm hv ?_ hn hdb)
 exact PyProof.Rows.callWith_builtin1 (thn (ha pos pins s σ H _ I h) λus s1 ⟨vs,H1,I1,r1,q1⟩=>hc pins s1 σ H1 vs us Q I1 r1 q1) he hpl
theorem qI (hc:xc X (.type T) r) (hg:Gl X x) (hm:X.mg x=none) (hv:fF x=some (.type T)) (ha:PA X (e::es) t) (hn:x ≠ "__name__":=by decide) (hdb:(x == ("__debug__" : Str))=false:=by decide)
  (he:aO (e::es) X.env=(false,eval e X.env)::aO es X.env:=by rfl) (hpl:(cH pos (aO es X.env)).any (·.1)=false:=by rfl):PE X (.Call (.Name x p) (e::es) [] pos) (tCB r t):=by
 intro pins s σ H Q I h
 refine de (yq I hg hm hv ?_ hn hdb)
 exact c3 (thn (ha pos pins s σ H _ I h) λus s1 ⟨vs,H1,I1,r1,q1⟩=>hc pins s1 σ H1 vs us Q I1 r1 q1) he hpl
end
end L2
namespace HT
open PySem PyProof.Rows
section
open PySem.SeqAt
open PySem.AutoSeq1 (wpAny_loadPart')
open PySem.MeetsSeq PySem.MeetsSeq2 PySem.MeetsSeq3
end
section
variable {prog:Program}{w:b9}{A:bj}{E:ag->Shared->Prop}{s:Shared}
noncomputable def sIx (n d:Nat):Option Int->Nat
 | none=>d
 | some v=>if v<0 then (v+(n:Int)).toNat else min v.toNat n
theorem sIx_none (n d:Nat):sIx n d none=d:=rfl
theorem sIx_nat (n d k:Nat):sIx n d (some (k:Int))=min k n:=by
 show (if (k:Int)<0 then ((k:Int)+(n:Int)).toNat else min (k:Int).toNat n)=min k n
 rw [if_neg ∅,bE]
theorem slicePart_ {v:ag}{o:Option Int}{Q:Option Int->Shared->Prop}(p:rE v o) (h:Q o s):ay (aD prog w) A (Builtin.Slice.slicePartIndex v) Q E s:=by
 cases p with
 | none=>exact slicePart_none h
 | int i t=>exact slicePart_int h
end
end HT
namespace L2
noncomputable abbrev TO:=St->Hp->(Option Int->Hp->Prop)->Prop
noncomputable def PO (X:Cx) (e:Option Expr) (t:TO):Prop :=
 ∀(pins:List (Addr×Obj)) (s:Shared) (σ:St) (H:Hp) (Q:Option Int->Hp->Prop),Inv X pins σ H s->t σ H Q ->
  ay (aD X.prog X.w) X.A (evalPart e X.env) (λu s'=>∃o H',Inv X pins σ H' s'/\rE u o/\Q o H') X.xe s
noncomputable def Uo:TO:=λ_ H Q=>Q none H
noncomputable def GN (t:TE):TO:=λσ H Q=>t σ H λx H1=>∃i,x = .int i/\Q (some i) H1
section
variable {X:Cx}{e:Expr}{te:TE}{lo hi:Option Expr}{tl th:TO}{pos p2:Pos}
theorem Zy:PO X none Uo:=by
 intro pins s σ H Q I h
 rw [lx]
 exact wpAny_pure ⟨none,H,I,.none,h⟩
theorem ZP (h:PE X e te):PO X (some e) (GN te):=by
 intro pins s σ H Q I hw
 rw [nu]
 refine thn (h pins s σ H _ I hw) λu s1 ⟨x,H1,I1,r1,q1⟩=>?_
 obtain ⟨i,rfl,q⟩:=q1
 obtain ⟨t,rfl⟩:=r1
 exact ⟨some i,H1,I1,.int i t,q⟩
noncomputable def SlR (X:Cx) (r:V->Option Int->Option Int->Hp->VK->Prop):Prop :=
 ∀(pins:List (Addr×Obj)) (s:Shared) (σ:St) (H:Hp) (x:V) (v vl vu:ag) (lo hi:Option Int) (sl:Addr) (Q:VK),Inv X pins σ H s->jE x v->s.heap.IsSliceOf sl vl vu .none->rE vl lo->rE vu hi->r x lo hi H Q ->
  ∃T id,rG (.type T) "__getitem__" = pure (some (.builtin id))/\s.TypeIs v T/\ay (aD X.prog X.w) X.A (lV v (.ref sl)) (EP X pins σ Q) X.xe s
noncomputable def tSl (r:V->Option Int->Option Int->Hp->VK->Prop) (te:TE) (tl th:TO):TE:=λσ H Q=>te σ H λx H1=>tl σ H1 λl H2=>th σ H2 λu H3=>r x l u H3 Q
theorem Qt {r:V->Option Int->Option Int->Hp->VK->Prop}(hr:SlR X r) (he:PE X e te) (hl:PO X lo tl) (hu:PO X hi th):PE X (.Subscript e (.Slice lo hi none p2) pos) (tSl r te tl th):=by
 intro pins s σ H Q I h
 refine lW (thn (he pins s σ H _ I h) λv s1 ⟨x,H1,I1,r1,q1⟩=>?_)
 refine pI (thn (hl pins s1 σ H1 _ I1 q1) λvl s2 ⟨l,H2,I2,pl,q2⟩=>thn (hu pins s2 σ H2 _ I2 q2) λvu s3 ⟨u,H3,I3,pu,q3⟩=>?_)
 rw [lx]
 refine wpAny_pure ?_
 have I4:Inv X pins σ H3 { s3 with heap:=s3.heap.push { cls:=.type "slice",data:=.fields #[vl,vu,.none] } }:=I3.kept (t':=s3.toks) λb ob q=>ai _ q
 obtain ⟨T,id,hT,ht,hg⟩:=hr pins { s3 with heap:=s3.heap.push { cls:=.type "slice",data:=.fields #[vl,vu,.none] } } σ H3 x v vl vu l u s3.heap.objs.size Q I4 r1 (iR ..) pl pu q3
 show ay (aD X.prog X.w) X.A (ia e (.Slice lo hi none p2) v (.ref s3.heap.objs.size)) (EP X pins σ Q) X.xe { s3 with heap:=s3.heap.push { cls:=.type "slice",data:=.fields #[vl,vu,.none] } }
 exact sQ (ops:=[.ref s3.heap.objs.size,v]) ht hT hg (by with_unfolding_all rfl)
noncomputable def Ju (xs:List V) (lo hi:Option Int):List V:=(xs.drop (HT.sIx xs.length 0 lo)).take (HT.sIx xs.length xs.length hi-HT.sIx xs.length 0 lo)
theorem Qf (xs:List V) (lo hi:Option Int):(Ju xs lo hi).length<=xs.length:=by
 unfold Ju
 rw [aJ,d6]
 omega
end
end L2
namespace L2
noncomputable def ixN (n:Nat) (i:Int):Option Nat:=if 0<=i then (if i<n then some i.toNat else none) else if -(n:Int)<=i then some (i+n).toNat else none
noncomputable def atI {α:Type}(xs:List α) (i:Int):Option α:=(ixN xs.length i).bind λj=>xs[j]?
theorem Zr {n:Nat}{i:Int}{j:Nat}(h:ixN n i=some j):seqIndex? i n=some j/\j<n /\ -(n:Int)<=i/\i<n:=by
 unfold ixN at h
 by_cases h0:0<=i
 ·rw [if_pos h0] at h
  by_cases h1:i<n
  ·rw [if_pos h1] at h
   have e:i.toNat=j:=aR h
   exact ⟨by rw [pJ h0 h1,e],∅,∅,h1⟩
  ·rw [if_neg h1] at h;cases h
 ·rw [if_neg h0] at h
  by_cases h1 : -(n:Int)<=i
  ·rw [if_pos h1] at h
   have e:(i+n).toNat=j:=aR h
   exact ⟨by rw [oA ∅ h1,e],∅,h1,∅⟩
  ·rw [if_neg h1] at h;cases h
theorem ZL {α:Type}{xs:List α}{i:Int}{v:α}(h:atI xs i=some v):∃j,seqIndex? i xs.length=some j/\xs[j]? = some v/\j<xs.length /\ -(xs.length:Int)<=i/\i<xs.length:=by
 unfold atI at h
 cases e:ixN xs.length i with
 | none=>rw [e] at h;cases h
 | some j =>
  rw [e] at h
  obtain ⟨h1,h2,h3,h4⟩:=Zr e
  exact ⟨j,h1,h,h2,h3,h4⟩
theorem zK {α:Type}{xs:List α}{j:Nat}{v:α}(h:xs[j]? = some v):atI xs (j:Int)=some v:=by
 have hj:j<xs.length:=(List.getElem?_eq_some_iff.mp h).1
 have e:ixN xs.length (j:Int)=some j:=by
  unfold ixN
  rw [if_pos ∅,if_pos ∅];simp
 unfold atI;rw [e];exact h
theorem yU {α:Type}(xs:List α) (v:α):atI (xs++[v]) (-1)=some v:=by
 have hl:(xs++[v]).length=xs.length+1:=by simp
 have e:ixN (xs++[v]).length (-1)=some xs.length:=by
  unfold ixN
  rw [hl,if_neg ⋯,if_pos ∅]
  congr 1
  omega
 unfold atI
 rw [e]
 show (xs++[v])[xs.length]? = some v
 simp
noncomputable def Ul (b:Expr):Prop:=∀o i,mI b false o i=operate [o,i] (lV o i)
noncomputable def IxR (X:Cx) (r:R2):Prop :=
 ∀(value slice:Expr) (pins:List (Addr×Obj)) (s:Shared) (σ:St) (H:Hp) (x y:V) (v u:ag) (Q:VK),Inv X pins σ H s->jE x v->jE y u->r x y H Q ->
  mI slice false v u=operate [v,u] (lV v u)->ay (aD X.prog X.w) X.A (ia value slice v u) (EP X pins σ Q) X.xe s
noncomputable def MtR (X:Cx) (id:String) (r:V->List V->Hp->VK->Prop):Prop :=
 ∀(pins:List (Addr×Obj)) (s:Shared) (σ:St) (H:Hp) (x:V) (xs:List V) (v:ag) (us:List ag) (Q:VK),Inv X pins σ H s->jE x v->jC xs us->r x xs H Q ->
  ay (aD X.prog X.w) X.A (call (.builtin id) (v::us)) (EP X pins σ Q) X.xe s
section
variable {X:Cx}{a b:Expr}{ta tb:TE}{pos:Pos}
theorem jo {r:R2}(hr:IxR X r) (ha:PE X a ta) (hb:PE X b tb) (hs:Ul b):PE X (.Subscript a b pos) (tOp r ta tb):=by
 intro pins s σ H Q I h
 exact lW (Wv ha hb I h λv u s2 x y H2 I2 rx ry q=>hr a b pins s2 σ H2 x y v u Q I2 rx ry q (hs _ _))
noncomputable def WH (K:ah):R2:=λx y H Q=>∃p xs i v,x = .ref p/\y = .int i/\SqL K H p xs/\atI xs i=some v/\Q v H
noncomputable def Gq (K:ah):R2:=λx y H Q=>∃p xs i v,x = .ref p/\y = .int i/\SqT K H p xs/\atI xs i=some v/\Q v H
theorem Uc:IxR X (WH X.K):=by
 intro value slice pins s σ H x y v u Q I rx ry h hs
 obtain ⟨p,xs,i,z,rfl,rfl,hq,he,q⟩:=h
 cases rx
 obtain ⟨t,rfl⟩:=ry
 obtain ⟨its,r,pl,hz⟩:=I.list hq
 obtain ⟨j,h1,h2,h3,h4,h5⟩:=ZL he
 obtain ⟨w,ew,rw'⟩:=r.get h2
 have hl:=r.length
 have hn:=wG
 have fin:EP X pins σ Q w s:=⟨z,H,I,rw',q⟩
 by_cases h0:0<=i
 ·have hj:i.toNat=j:=by
   rw [pJ h0 h5] at h1
   exact aR h1
  exact item_listR pl.isList h0 ∅ (by rw [hj];simpa using ew) fin hs
 ·have hj:(i+(its.toArray.size:Int)).toNat=j:=by
   rw [oA ∅ h4] at h1
   rw [ar,<- hl]
   exact aR h1
  exact lX (x:=w) pl.isList.typeIs slot_list_getitem.lookup
   (wpAny_getItem_list_neg (Q:=λr s'=>r=w/\EP X pins σ Q r s') pl.isList ∅ (by rw [ar] <;> omega) ∅ (by rw [hj];simpa using ew) ⟨rfl,fin⟩) hs
theorem G5:IxR X (Gq X.K):=by
 intro value slice pins s σ H x y v u Q I rx ry h hs
 obtain ⟨p,xs,i,z,rfl,rfl,hq,he,q⟩:=h
 cases rx
 obtain ⟨t,rfl⟩:=ry
 obtain ⟨its,r,pl,hz⟩:=I.tuple hq
 obtain ⟨j,h1,h2,h3,h4,h5⟩:=ZL he
 obtain ⟨w,ew,rw'⟩:=r.get h2
 have hl:=r.length
 have hn:=wG
 have fin:EP X pins σ Q w s:=⟨z,H,I,rw',q⟩
 exact lX (x:=w) pl.typeIs slot_tuple_getitem.lookup
  (getItem_tuple (j:=j) (Q:=λr s'=>r=w/\EP X pins σ Q r s') pl ∅ ∅ (by rw [ar,<- hl];exact h1) (by simpa using ew) ⟨rfl,fin⟩) hs
theorem Zg (its:List ag) (n j:Nat) (u:ag):aY (·.setIfInBounds j u) { cls:=.type "list",data:=.seq its.toArray n }={ cls:=.type "list",data:=.seq (its.set j u).toArray n }:=by
 simp [aY]
theorem Inv.lst {pins:List (Addr×Obj)}{σ:St}{H:Hp}{s:Shared}{p:Addr}{xs:List V}(I:Inv X pins σ H s) (h:H p=some (.lst xs)) :
  ∃(its:List ag) (n:Nat),jC xs its/\s.heap.get? p=some { cls:=.type "list",data:=.seq its.toArray n }/\xs.length<=sizeLine:=by
 obtain ⟨z,its,n,r,e⟩:=I.hok p _ h
 exact ⟨its,n,r,e,z⟩
theorem Inv.lstUpd {pins:List (Addr×Obj)}{σ:St}{H:Hp}{s:Shared}{p:Addr}{xs ys:List V}{its its':List ag}{n n':Nat}{f:Obj->Obj}(I:Inv X pins σ H s) (h:H p=some (.lst xs))
  (ho:s.heap.get? p=some { cls:=.type "list",data:=.seq its.toArray n }) (hf:f { cls:=.type "list",data:=.seq its.toArray n }={ cls:=.type "list",data:=.seq its'.toArray n' }) (r:jC ys its') (hz:ys.length<=sizeLine) (t:Nat) :
  Inv X pins σ (upd H p (.lst ys)) { s with heap:=s.heap.update p f,toks:=t }:=by
 have e:(s.heap.update p f).get? p=some { cls:=.type "list",data:=.seq its'.toArray n' }:=by
  rw [eM f ho (by rw [hf] <;> rfl),hf]
 refine I.write (x:=p) (e:=p) (by rw [h];trivial) (.inl rfl) (λb u hb q=>(cz _ _ (cj hb)).trans q) ⟨_,e⟩ ?_
 exact ⟨hz,its',n',r,e⟩
noncomputable def Ec:V->V->V->Hp->(Hp->Prop)->Prop:=λo i v H Q=>∃p xs k j,o = .ref p/\i = .int k/\H p=some (.lst xs)/\ixN xs.length k=some j/\Q (upd H p (.lst (xs.set j v)))
theorem yi:Eg X Ec:=by
 intro pins s σ H o i v ov iv u Q I ro ri rv h
 obtain ⟨p,xs,k,j,rfl,rfl,hp,hj,q⟩:=h
 cases ro
 obtain ⟨t,rfl⟩:=ri
 obtain ⟨its,n,r,ho,hz⟩:=I.lst hp
 obtain ⟨h1,h2,h3,h4⟩:=Zr hj
 have hl:=r.length
 have hn:=wG
 have I':Inv X pins σ (upd H p (.lst (xs.set j v))) { s with heap:=s.heap.update p (aY (·.setIfInBounds j u)) } :=
  I.lstUpd hp ho (Zg its n j u) (r.set rv j) (by rw [ir];exact hz) s.toks
 by_cases h0:0<=k
 ·have hk:k.toNat=j:=by
   rw [pJ h0 h4] at h1
   exact aR h1
  exact PySem.W.ki_setAt ho h0 ∅ (by rw [ar,<- hl];exact h4) (by rw [hk];exact ⟨_,I',q⟩)
 ·have hk:(k+(its.toArray.size:Int)).toNat=j:=by
   rw [oA ∅ h3] at h1
   rw [ar,<- hl]
   exact aR h1
  exact PySem.W.ki_setBack ho ∅ (by rw [ar,<- hl];exact h3) ∅ (by rw [hk];exact ⟨_,I',q⟩)
theorem Q5 (lo hi:Option Int) (n:Nat):(fA lo hi none n).1=((HT.sIx n 0 lo:Nat):Int)/\(fA lo hi none n).2.1=((HT.sIx n n hi:Nat):Int)/\(fA lo hi none n).2.2=1:=by
 refine ⟨?_,?_,rfl⟩
 ·cases lo with
  | none=>simp [fA,HT.sIx]
  | some i =>
   simp only [fA,HT.sIx,oZ,show (1:Int) > 0 by decide,if_true]
   by_cases h:i<0
   ·simp only [h,if_true] <;> omega
   ·simp only [h,if_false] <;> omega
 ·cases hi with
  | none=>simp [fA,HT.sIx]
  | some i =>
   simp only [fA,HT.sIx,oZ,show (1:Int) > 0 by decide,if_true]
   by_cases h:i<0
   ·simp only [h,if_true] <;> omega
   ·simp only [h,if_false] <;> omega
theorem gk (its:List ag) (lo hi:Option Int):slicePick its.toArray lo hi none=((its.drop (HT.sIx its.length 0 lo)).take (HT.sIx its.length its.length hi-HT.sIx its.length 0 lo)).toArray:=by
 obtain ⟨h1,h2,h3⟩:=Q5 lo hi its.toArray.size
 unfold slicePick
 rw [h1,h2,h3]
 simp only [sliceRange_one,pick_run,ar] <;> rfl
noncomputable def rSlL (K:ah):V->Option Int->Option Int->Hp->VK->Prop:=λx lo hi H Q=>∃a xs,x = .ref a/\SqL K H a xs/\∀p,H p=none->Q (.ref p) (upd H p (.lst (Ju xs lo hi)))
theorem U9:SlR X (rSlL X.K):=by
 intro pins s σ H x v vl vu lo hi sl Q I rx hs pl pu h
 obtain ⟨a,xs,rfl,hx,q⟩:=h
 cases rx
 obtain ⟨its,r,ht,hz⟩:=I.list hx
 have hlen:=r.length
 refine ⟨"list",_,slot_list_getitem.lookup,ht.isList.typeIs,?_⟩
 refine ly ht.isList hs pl pu .none (by simp) ?_ (by rw [ar] <;> omega)
 rw [gk,<- hlen]
 refine ⟨.ref s.heap.objs.size,_,I.laid (t':=s.toks) (o:=.lst (Ju xs lo hi)) (λb ob q=>ai _ q) (aq _) ?_,rfl,q _ (I.hok.fresh (aq _))⟩
 exact ⟨aF (Qf xs lo hi) hz,_,0,(r.drop (HT.sIx xs.length 0 lo)).take (HT.sIx xs.length xs.length hi-HT.sIx xs.length 0 lo),az _ rfl⟩
noncomputable def uo:V->Bool
 | .non=>true
 | .bl _=>true
 | .int _=>true
 | .str _=>true
 | _=>false
noncomputable def eqV:V->V->Bool
 | .non,.non=>true
 | .bl a,.bl b=>a == b
 | .bl a,.int b=>(if a then 1 else 0) == b
 | .int a,.bl b=>a == (if b then 1 else 0)
 | .int a,.int b=>a == b
 | .str a,.str b=>a == b
 | _,_=>false
theorem Wt {A:bj}{s:Shared}{y x:V}{u v:ag}(ry:jE y u) (rx:jE x v) (fy:uo y=true) (fx:uo x=true):SeqAt.EqAt A s u v (eqV y x):=by
 cases y with
 | non =>
  cases ry
  cases x with
  | non=>cases rx;exact SeqAt.EqAt.same _
  | bl b=>cases rx;exact SeqAt.EqAt.none_bool b
  | int b=>obtain ⟨t,rfl⟩:=rx;exact SeqAt.EqAt.none_int b t
  | str b=>obtain ⟨t,rfl⟩:=rx;exact SeqAt.EqAt.none_str b t
  | _=>exact absurd (show false=true from fx) au
 | bl a =>
  cases ry
  cases x with
  | non=>cases rx;exact SeqAt.EqAt.bool_none a
  | bl b=>cases rx;exact SeqAt.EqAt.bool_bool a b
  | int b=>obtain ⟨t,rfl⟩:=rx;exact SeqAt.EqAt.bool_int a b t
  | str b=>obtain ⟨t,rfl⟩:=rx;exact SeqAt.EqAt.bool_str a b t
  | _=>exact absurd (show false=true from fx) au
 | int a =>
  obtain ⟨t',rfl⟩:=ry
  cases x with
  | non=>cases rx;exact SeqAt.EqAt.int_none a t'
  | bl b=>cases rx;exact SeqAt.EqAt.int_bool a t' b
  | int b=>obtain ⟨t,rfl⟩:=rx;exact SeqAt.EqAt.int_int a t' b t
  | str b=>obtain ⟨t,rfl⟩:=rx;exact nH a t' b t
  | _=>exact absurd (show false=true from fx) au
 | str a =>
  obtain ⟨t',rfl⟩:=ry
  cases x with
  | non=>cases rx;exact SeqAt.EqAt.str_none a t'
  | bl b=>cases rx;exact SeqAt.EqAt.str_bool a t' b
  | int b=>obtain ⟨t,rfl⟩:=rx;exact nI a t' b t
  | str b=>obtain ⟨t,rfl⟩:=rx;exact SeqAt.EqAt.str_str a t' b t
  | _=>exact absurd (show false=true from fx) au
 | _=>exact absurd (show false=true from fy) au
noncomputable def eqU (x:V) (u:ag):Bool:=match u with
 | .none=>eqV .non x
 | .bool b=>eqV (.bl b) x
 | .int i _=>eqV (.int i) x
 | .str z _=>eqV (.str z) x
 | _=>false
theorem Vy {x y:V}{u:ag}(r:jE y u) (f:uo y=true):eqU x u=eqV y x:=by
 cases y with
 | non=>cases r;rfl
 | bl b=>cases r;rfl
 | int i=>obtain ⟨t,rfl⟩:=r;rfl
 | str z=>obtain ⟨t,rfl⟩:=r;rfl
 | _=>exact absurd (show false=true from f) au
theorem ul {x:V}:∀{xs:List V}{us:List ag},jC xs us->xs.all uo=true->us.any (eqU x)=xs.any λy=>eqV y x
 | _,_,.nil,_=>rfl
 | y::xs,u::us,.cons r t,f=>by
  rw [nv,bf] at f
  rw [fg,fg,Vy r f.1,ul t f.2]
theorem yL {A:bj}{s:Shared}{x:V}{v:ag}(rx:jE x v) (fx:uo x=true):∀{xs:List V}{us:List ag},jC xs us->xs.all uo=true->∀u∈us,SeqAt.EqAt A s u v (eqU x u)
 | _,_,.nil,_=>λu hu=>by cases hu
 | y::xs,u::us,.cons r t,f=>λu' hu=>by
  rw [nv,bf] at f
  rcases List.mem_cons.mp hu with rfl | hu
  ·rw [Vy r f.1];exact Wt r rx f.1 fx
  ·exact yL rx fx t f.2 u' hu
noncomputable def inV (x:V) (xs:List V):Bool:=xs.any λy=>eqV y x
noncomputable def rIn (K:ah) (neg:Bool):R2:=λx y H Q=>∃p xs,y = .ref p/\(SqL K H p xs\/SqT K H p xs)/\uo x=true/\xs.all uo=true/\Q (.bl (if neg then !inV x xs else inV x xs)) H
theorem Yi:OpR X (cf .In) (rIn X.K false):=by
 intro pins s σ H x y v u Q I rx ry h
 obtain ⟨p,xs,rfl,hq,fx,fs,q⟩:=h
 cases ry
 rcases hq with hq | hq
 ·obtain ⟨its,r,pl,hz⟩:=I.list hq
  refine SeqAt.in_listAt (eqU x) pl.isList (λw hw=>yL rx fx r fs w (by simpa using hw)) ⟨.bl _,H,I,rfl,?_⟩
  rw [show its.toArray.any (eqU x)=its.any (eqU x) by simp,ul r fs]
  exact q
 ·obtain ⟨its,r,pl,hz⟩:=I.tuple hq
  refine SeqAt.in_tupleAt (eqU x) pl (λw hw=>yL rx fx r fs w (by simpa using hw)) ⟨.bl _,H,I,rfl,?_⟩
  rw [show its.toArray.any (eqU x)=its.any (eqU x) by simp,ul r fs]
  exact q
theorem JB:OpR X (cf .NotIn) (rIn X.K true):=by
 intro pins s σ H x y v u Q I rx ry h
 obtain ⟨p,xs,rfl,hq,fx,fs,q⟩:=h
 cases ry
 rcases hq with hq | hq
 ·obtain ⟨its,r,pl,hz⟩:=I.list hq
  refine SeqAt.notIn_listAt (eqU x) pl.isList (λw hw=>yL rx fx r fs w (by simpa using hw)) ⟨.bl _,H,I,rfl,?_⟩
  rw [show its.toArray.any (eqU x)=its.any (eqU x) by simp,ul r fs]
  exact q
 ·obtain ⟨its,r,pl,hz⟩:=I.tuple hq
  refine SeqAt.notIn_tupleAt (eqU x) pl (λw hw=>yL rx fx r fs w (by simpa using hw)) ⟨.bl _,H,I,rfl,?_⟩
  rw [show its.toArray.any (eqU x)=its.any (eqU x) by simp,ul r fs]
  exact q
theorem JP:xc X (.builtin "len") (λxs H Q=>∃p ys,xs=[.ref p]/\(SqL X.K H p ys\/SqT X.K H p ys)/\Q (.int ys.length) H):=by
 intro pins s σ H xs us Q I r h
 obtain ⟨p,ys,rfl,hq,q⟩:=h
 obtain ⟨u,rfl,rx⟩:=yV r
 cases rx
 have hn:=wG
 rcases hq with hq | hq
 ·obtain ⟨its,r',pl,hz⟩:=I.list hq
  have hlen:=r'.length
  exact Calls.call_len_list pl.isList (by simp only [ar] <;> omega) ⟨.int ys.length,H,I.tok _,⟨s.toks+1,by rw [ar,hlen]⟩,q⟩
 ·obtain ⟨its,r',pl,hz⟩:=I.tuple hq
  have hlen:=r'.length
  exact len_tuple pl (by simp only [ar] <;> omega) ⟨.int ys.length,H,I.tok _,⟨s.toks+1,by rw [ar,hlen]⟩,q⟩
theorem JG:xc X (.type "list") (λxs H Q=>∃p ys,xs=[.ref p]/\(SqL X.K H p ys\/SqT X.K H p ys)/\∀l,H l=none->Q (.ref l) (upd H l (.lst ys))):=by
 intro pins s σ H xs us Q I r h
 obtain ⟨p,ys,rfl,hq,q⟩:=h
 obtain ⟨u,rfl,rx⟩:=yV r
 cases rx
 have fin:∀(its:List ag),jC ys its->ys.length<=sizeLine->∀(h':Heap) (c':Nat),(∀b o',s.heap.get? b=some o'->h'.get? b=some o') ->
   h'.get? s.heap.objs.size=some { cls:=.type "list",dict:=none,data:=.seq its.toArray c',slots:=#[] }->EP X pins σ Q (.ref s.heap.objs.size) { s with heap:=h' }:=λits r' hz h' c' kp e =>
  ⟨.ref s.heap.objs.size,_,I.laid (t':=s.toks) kp (aq _) (show qi X.prog X.w _ h' _ (.lst ys) from ⟨hz,its,c',r',e⟩),rfl,q _ (I.hok.fresh (aq _))⟩
 rcases hq with hq | hq
 ·obtain ⟨its,r',pl,hz⟩:=I.list hq
  have hlen:=r'.length
  obtain ⟨o,ho,hc,n,hd⟩:=pl.isList
  exact sx p (.inl rfl) ho hc hd (λh' c' kp e=>fin its r' hz h' c' kp e) (by simp only [ar] <;> omega)
 ·obtain ⟨its,r',pl,hz⟩:=I.tuple hq
  have hlen:=r'.length
  obtain ⟨o,ho,hc,n,hd⟩:=pl
  exact sx p (.inr rfl) ho hc hd (λh' c' kp e=>fin its r' hz h' c' kp e) (by simp only [ar] <;> omega)
theorem gj:xc X (.type "tuple") (λxs H Q=>∃p ys,xs=[.ref p]/\((SqL X.K H p ys/\∀l,H l=none->Q (.ref l) (upd H l (.tup ys)))\/(SqT X.K H p ys/\Q (.ref p) H))):=by
 intro pins s σ H xs us Q I r h
 obtain ⟨p,ys,rfl,h⟩:=h
 obtain ⟨u,rfl,rx⟩:=yV r
 cases rx
 rcases h with ⟨hq,q⟩ | ⟨hq,q⟩
 ·obtain ⟨its,r',pl,hz⟩:=I.list hq
  have hlen:=r'.length
  refine call_tuple_list pl.isList (λh' kp=>?_) (by simp only [ar] <;> omega)
  have I1:Inv X pins σ H { s with heap:=h' }:=I.kept (t':=s.toks) kp
  have I2:Inv X pins σ (upd H h'.objs.size (.tup ys)) { s with heap:=h'.push { cls:=.type "tuple",data:=.seq its.toArray } } :=
   I1.laid (t':=s.toks) (λb o e=>ai _ e) (aq _) (show qi X.prog X.w _ _ _ (.tup ys) from ⟨hz,its,r',IsTup.new _ _⟩)
  exact ⟨.ref h'.objs.size,_,I2,rfl,q _ (I1.hok.fresh (aq _))⟩
 ·obtain ⟨its,r',pl,hz⟩:=I.tuple hq
  exact call_tuple_same pl ⟨.ref p,H,I,rfl,q⟩
noncomputable def tyV (K:ah) (T:String) (x:V) (H:Hp):Prop:=match x with
 | .str _=>T = "str"
 | .int _=>T = "int"
 | .ref p=>(T = "list" /\ ∃xs,SqL K H p xs)\/(T = "tuple" /\ ∃o,K.lookup p=some o/\o.cls = .type "tuple" /\ o.dict=none) \/
   (T = "dict" /\ ((∃kvs,H p=some (.dK kvs))\/∃kvs,H p=some (.dT kvs)))\/(T = "set" /\ ∃S n,H p=some (.set S n))
 | _=>False
theorem V3 {pins:List (Addr×Obj)}{σ:St}{H:Hp}{s:Shared}{T:String}{x:V}{v:ag}(I:Inv X pins σ H s) (r:jE x v) (ty:tyV X.K T x H) :
  s.TypeIs v T/\∀a,v = .ref a->∃ob,s.heap.get? a=some ob/\ob.dict=none:=by
 cases x with
 | str z =>
  obtain ⟨t,rfl⟩:=r
  cases (show T = "str" from ty)
  exact ⟨typeIs_str s z t,λ_ e=>nomatch e⟩
 | int i =>
  obtain ⟨t,rfl⟩:=r
  cases (show T = "int" from ty)
  exact ⟨typeIs_int s i t,λ_ e=>nomatch e⟩
 | ref p =>
  cases r
  rcases ty with ⟨rfl,xs,hq⟩ | ⟨rfl,o,hk,hc,hd⟩ | ⟨rfl,hk⟩ | ⟨rfl,S,n,hk⟩
  ·obtain ⟨its,_,pl,_⟩:=I.list hq
   refine ⟨pl.isList.typeIs,λa e=>?_⟩
   cases e
   obtain ⟨o,n,e,c,hd,_⟩:=pl
   exact ⟨o,e,hd⟩
  ·refine ⟨⟨o,I.kIn p o hk,hc⟩,λa e=>?_⟩
   cases e
   exact ⟨o,I.kIn _ o hk,hd⟩
  ·have z:∃o,s.heap.get? p=some o/\o.ExactDict:=by
    rcases hk with ⟨kvs,hk⟩ | ⟨kvs,hk⟩
    ·obtain ⟨_,_,_,_,o,_,_,e,ex,_⟩:=I.hok p _ hk
     exact ⟨o,e,ex⟩
    ·obtain ⟨_,_,_,_,o,_,_,e,ex,_⟩:=I.hok p _ hk
     exact ⟨o,e,ex⟩
   obtain ⟨o,e,ex⟩:=z
   refine ⟨⟨o,e,ex.1⟩,λa e2=>?_⟩
   cases e2
   exact ⟨o,e,ex.2.1⟩
  ·obtain ⟨o,_,_,_,e,ex,_⟩:=I.hok p _ hk
   refine ⟨⟨o,e,ex.1⟩,λa e2=>?_⟩
   cases e2
   exact ⟨o,e,ex.2.1⟩
 | _=>exact bC ty
noncomputable def Gy (K:ah) (T:String) (r:V->List V->Hp->VK->Prop) (to:TE):TE:=λσ H Q=>to σ H λx H1=>tyV K T x H1/\r x [] H1 Q
noncomputable def tBM (K:ah) (T:String) (r:V->List V->Hp->VK->Prop) (to:TE) (t:TA):TE:=λσ H Q=>to σ H λx H1=>tyV K T x H1/\t σ H1 λxs H2=>r x xs H2 Q
variable {o e:Expr}{es:List Expr}{to:TE}{t:TA}{name:Str}{apos cpos:Pos}{T id:String}{r:V->List V->Hp->VK->Prop}
theorem Vj (pa:nM T) (slot:Slot T name id) (hty:p0 (.builtin id)=pure (.type "method_descriptor")) (hm:MtR X id r) (ho:PE X o to)
  (hbase:dB o name X.env (eval o X.env)=eval o X.env:=by rfl) (hline:(apos.endLine == cpos.line)=true:=by rfl):PE X (.Call (.Attribute o name apos) [] [] cpos) (Gy X.K T r to):=by
 intro pins s σ H Q I h
 refine wpAny_Call_method0_late hbase hline (thn (ho pins s σ H _ I h) λv s1 ⟨x,H1,I1,r1,ty,q1⟩=>?_)
 obtain ⟨h1,h2⟩:=V3 I1 r1 ty
 exact ⟨T,id,pa,slot,hty,h1,h2,fL rfl (PySem.evalArgs_none (hm pins s1 σ H1 x [] v [] Q I1 r1 .nil q1))⟩
theorem GM (pa:nM T) (slot:Slot T name id) (hty:p0 (.builtin id)=pure (.type "method_descriptor")) (hm:MtR X id r) (ho:PE X o to) (ha:PA X (e::es) t)
  (hbase:dB o name X.env (eval o X.env)=eval o X.env:=by rfl)
  (hfew:((cH cpos (aO (e::es) X.env)).all (λx=>!x.1) && (iO cpos (eP [] X.env)).all (λx=>x.1.isSome)
   && decide ((e::es).length+([]:List lU).length+(if ([]:List lU).isEmpty then 0 else 1)<30))=true:=by rfl)
  (hline:(apos.endLine == cpos.line)=true:=by rfl) (hs:aO (e::es) X.env=(false,eval e X.env)::aO es X.env:=by rfl) (hplain:(cH cpos (aO es X.env)).any (·.1)=false:=by rfl) :
  PE X (.Call (.Attribute o name apos) (e::es) [] cpos) (tBM X.K T r to t):=by
 intro pins s σ H Q I h
 refine wpAny_Call_method_late hbase hfew hline rfl (thn (ho pins s σ H _ I h) λv s1 ⟨x,H1,I1,r1,ty,q1⟩=>?_)
 obtain ⟨h1,h2⟩:=V3 I1 r1 ty
 refine ⟨T,id,pa,slot,hty,h1,h2,?_⟩
 have hA:=ha cpos pins s1 σ H1 _ I1 q1
 rw [hs] at hA ⊢
 refine fL (by show (false || (cH cpos (aO es X.env)).any (·.1))=false;rw [hplain] <;> rfl) (ij ?_)
 exact thn hA λus s2 ⟨vs,H2,I2,r2,q2⟩=>hm pins s2 σ H2 x vs v us Q I2 r1 r2 q2
end
end L2
namespace L2
noncomputable def MtM (X:Cx) (id:String) (r:V->List V->Hp->VK->Prop):Prop :=
 ∀(pins:List (Addr×Obj)) (s:Shared) (σ:St) (H:Hp) (x:V) (xs:List V) (v:ag) (us:List ag) (Q:VK),Inv X pins σ H s->jE x v->jC xs us->r x xs H Q ->
  ay (aD X.prog X.w) X.A (call (.builtin id) (v::us)) (EP X pins σ Q) X.xe s
theorem jC.one:∀{x:V}{us:List ag},jC [x] us->∃u,us=[u]/\jE x u
 | _,_,.cons r .nil=>⟨_,rfl,r⟩
theorem jC.zero:∀{us:List ag},jC [] us->us=[]
 | _,.nil=>rfl
theorem jC.dropLast {xs:List V}{us:List ag}(h:jC xs us):jC xs.dropLast us.dropLast:=by
 induction h with
 | nil=>exact .nil
 | cons r t ih =>
  cases t with
  | nil=>exact .nil
  | cons q t'=>exact .cons r ih
theorem jC.reverse {xs:List V}{us:List ag}(h:jC xs us):jC xs.reverse us.reverse:=by
 induction h with
 | nil=>exact .nil
 | cons r t ih=>rw [lj,lj];exact jC.append ih (.cons r .nil)
theorem Xs {α:Type}(l:List α):l.eraseIdx (l.length-1)=l.dropLast:=by
 induction l with
 | nil=>rfl
 | cons a r ih =>
  cases r with
  | nil=>rfl
  | cons b r =>
   have e:(a::b::r).length-1=((b::r).length-1)+1:=by
    have h1:(a::b::r).length=r.length+2:=rfl
    have h2:(b::r).length=r.length+1:=rfl
    omega
   rw [e,List.eraseIdx_cons_succ,ih]
   all_goals rfl
section
variable {X:Cx}{pins:List (Addr×Obj)}{σ:St}{H:Hp}{s:Shared}{l b:Addr}{xs ys zs:List V}
theorem Inv.lset {its its':List ag}{n:Nat}{f:Array ag->Array ag}{t':Nat}(I:Inv X pins σ H s) (hH:H l=some (.lst xs))
  (e:s.heap.get? l=some { cls:=.type "list",data:=.seq its.toArray n }) (hf:f its.toArray=its'.toArray) (hv:jC ys its') (hz:ys.length<=sizeLine) :
  Inv X pins σ (upd H l (.lst ys)) { s with heap:=s.heap.update l (aY f),toks:=t' }:=by
 have q:=PySem.IsL.update e f
 rw [hf] at q
 refine I.write (x:=l) (e:=l) (by rw [hH];exact trivial) (.inl rfl) (λb' u hb hu=>(cz s.heap (aY f) (cj hb)).trans hu) ⟨_,q⟩ ?_
 exact ⟨hz,its',_,hv,q⟩
theorem Inv.lnew {its:List ag}{t':Nat}(I:Inv X pins σ H s) (hv:jC ys its) (hz:ys.length<=sizeLine) :
  Inv X pins σ (upd H s.heap.objs.size (.lst ys)) { s with heap:=s.heap.push { cls:=.type "list",data:=.seq its.toArray },toks:=t' } :=
 I.laid (λ_ _ q=>ai _ q) (aq _) ⟨hz,its,0,hv,az _ rfl⟩
theorem Inv.fresh (I:Inv X pins σ H s):H s.heap.objs.size=none:=I.hok.fresh (aq _)
theorem Inv.lstM (I:Inv X pins σ H s) (hH:H l=some (.lst xs)):xs.length<=sizeLine/\∃(its:List ag) (n:Nat),jC xs its/\xs.length=its.length/\s.heap.get? l=some { cls:=.type "list",data:=.seq its.toArray n }:=by
 obtain ⟨z,its,n,r,e⟩:=I.hok l _ hH
 exact ⟨z,its,n,r,r.length,e⟩
theorem VE {n:Nat}(h:n<=sizeLine):fh n=false:=by
 unfold fh
 exact decide_eq_false ∅
end
section
variable {X:Cx}
noncomputable def U7:V->List V->Hp->VK->Prop:=λx vs H Q=>∃l xs y,x = .ref l/\vs=[y]/\H l=some (.lst xs)/\xs.length<sizeLine/\Q .non (upd H l (.lst (xs++[y])))
theorem jZ:MtM X "list.append" U7:=by
 intro pins s σ H x vs v us Q I rx rv h
 obtain ⟨l,xs,y,rfl,rfl,hH,hz,q⟩:=h
 cases rx
 obtain ⟨u,rfl,ru⟩:=rv.one
 obtain ⟨z,its,n,r,hl,e⟩:=I.lstM hH
 refine lY F.slot_list_append ⟨_,e,rfl⟩ F.entry_list_append (F.args_list_append_2 _ _) (PySem.list_append l its.toArray n u (by rw [ar];omega)) ⟨e,?_⟩
 refine ⟨.non,_,I.lset (its':=its++[u]) hH e (by simp) (r.append (.cons ru .nil)) ?_,rfl,q⟩
 rw [ak,bg]
 omega
noncomputable def Ui:V->List V->Hp->VK->Prop:=λx vs H Q=>∃l b xs zs,x = .ref l/\vs=[.ref b]/\H l=some (.lst xs)/\H b=some (.lst zs)/\xs.length+zs.length<=sizeLine/\Q .non (upd H l (.lst (xs++zs)))
theorem Gu:MtM X "list.extend" Ui:=by
 intro pins s σ H x vs v us Q I rx rv h
 obtain ⟨l,b,xs,zs,rfl,rfl,hH,hB,hz,q⟩:=h
 cases rx
 obtain ⟨u,rfl,ru⟩:=rv.one
 cases ru
 obtain ⟨z,its,n,r,hl,e⟩:=I.lstM hH
 obtain ⟨z2,its2,n2,r2,hl2,e2⟩:=I.lstM hB
 have hsz:its.toArray.size+its2.toArray.size<=sizeLine:=by rw [ar,ar];omega
 have hlong:¬(!its.toArray.isEmpty && fh (its.toArray.size+its2.toArray.size))=true:=by
  rw [VE hsz,Bool.and_false]
  exact au
 refine lY F.slot_list_extend ⟨_,e,rfl⟩ F.entry_list_extend (F.args_list_extend_2 _ _)
  (AutoSeq1.list_extend_list_list_0 l its.toArray n b its2.toArray n2 hlong (by rw [ar];omega) ∅) ⟨e,e2,?_⟩
 refine ⟨.non,_,I.lset (its':=its++its2) hH e (by simp) (r.append r2) ?_,rfl,q⟩
 rw [ak]
 omega
noncomputable def rPop:V->List V->Hp->VK->Prop:=λx vs H Q=>∃l xs y,x = .ref l/\vs=[]/\H l=some (.lst xs)/\xs[xs.length-1]? = some y/\Q y (upd H l (.lst xs.dropLast))
theorem Go:MtM X "list.pop" rPop:=by
 intro pins s σ H x vs v us Q I rx rv h
 obtain ⟨l,xs,y,rfl,rfl,hH,hy,q⟩:=h
 cases rx
 have hus:=rv.zero
 subst hus
 obtain ⟨z,its,n,r,hl,e⟩:=I.lstM hH
 obtain ⟨u,hu,ru⟩:=r.get hy
 have hy':its.toArray[its.toArray.size-1]? = some u:=by
  show its.toArray[its.length-1]? = some u
  rw [<- mv,<- hl]
  exact hu
 refine lY F.slot_list_pop ⟨_,e,rfl⟩ F.entry_list_pop (F.args_list_pop_1 _) (MeetsSeq.list_pop_last l its.toArray n u hy' (by rw [ar];omega)) ⟨e,?_⟩
 refine ⟨y,_,I.lset (its':=its.dropLast) hH e ?_ r.dropLast ?_,ru,q⟩
 ·show its.toArray.eraseIdxIfInBounds (its.toArray.size-1)=its.dropLast.toArray
  rw [ar,List.eraseIdxIfInBounds_toArray,Xs]
 ·rw [mJ]
  omega
noncomputable def rCat:R2:=λx y H Q=>∃l b xs zs,x = .ref l/\y = .ref b/\H l=some (.lst xs)/\H b=some (.lst zs)/\xs.length+zs.length<=sizeLine/\∀p,H p=none->Q (.ref p) (upd H p (.lst (xs++zs)))
theorem WE:OpR X (ig .Add) rCat:=by
 intro pins s σ H x y v u Q I rx ry h
 obtain ⟨l,b,xs,zs,rfl,rfl,hH,hB,hz,q⟩:=h
 cases rx
 cases ry
 obtain ⟨z,its,n,r,hl,e⟩:=I.lstM hH
 obtain ⟨z2,its2,n2,r2,hl2,e2⟩:=I.lstM hB
 refine PySem.P.add_list e e2 ?_ (by rw [ar,ar];omega)
 have ea:its.toArray++its2.toArray=(its++its2).toArray:=by simp
 rw [ea]
 exact ⟨.ref _,_,I.lnew (t':=s.toks) (r.append r2) (by rw [ak];omega),rfl,q _ I.fresh⟩
end
section
variable {prog:Program}{w:b9}{A:bj}{E:ag->Shared->Prop}{s:Shared}
set_option maxRecDepth 100000 in
end
section
variable {X:Cx}
end
end L2
namespace Att
open PySem PySem.W PySem.Calls PyProof.Rows
theorem wx {P:pX}{h:Heap}:∀(ns:List Int) (vs:List ag),WellAll P h vs (ns.map WData.int)->cX vs ns:=by
 intro ns
 induction ns with
 | nil =>
  intro vs w
  rw [fb] at w
  cases w
  exact .nil
 | cons n ns ih =>
  intro vs w
  rw [aN] at w
  cases w with
  | cons a b =>
   cases a
   exact .cons _ _ (ih _ b)
theorem Y0 {l:OpenLaw}{n:Nat}(hn:l.most=some n) {P:pX}{h:Heap}{args:List WData}{vals:List ag}
  (hpre:l.row.toRowW.claim.pre args=true) (hwl:WellAll P h vals args) :
  ∃a vs ns,vals=[aS a]/\args=[WData.list (ns.map WData.int)]/\h.get? a=some { cls:=.type "list",data:=.seq vs.toArray }/\cX vs ns/\ns.length<=n:=by
 have hsh:WShape.hasAll [] args [.list .int]=true:=(pre_splitW hpre).1
 have hc:l.pre.holds [] { args:=args }=true:=(pre_splitW hpre).2
 obtain ⟨d,r,rfl,h1,h2⟩:=hasAllW_cons hsh
 obtain rfl:=hasAllW_nil h2
 obtain ⟨xs,rfl,h3⟩:=hasW_list h1
 obtain ⟨ns,rfl⟩:=items_int h3
 have hlen:ns.length<=n:=by
  unfold OpenLaw.pre at hc
  have h4:(WTm.not (.lt (.lit (.int (n:Int))) (.len (.arg 0)))).holds [] { args:=[.list (ns.map .int)] }=true:=by
   have h4:=(holds_andW hc).1
   rw [hn] at h4
   exact h4
  have h5:=condW_of h4 (w_not (w_lt w_lit (w_len_list (w_arg rfl))))
  rw [af] at h5
  refine Nat.le_of_not_lt λq=>?_
  have q':(n:Int)<((ns.length:Nat):Int):=∅
  first
   | (rw [decide_eq_true q'] at h5;exact absurd h5 ⋯)
   | (simp at h5;omega)
 cases hwl with
 | cons w1 w2 =>
  cases w2
  cases w1 with
  | list ho hall=>exact ⟨_,_,ns,rfl,rfl,ho,wx ns _ hall,hlen⟩
theorem YN (l:OpenLaw) (args:List WData):l.row.toRowW.claim.post args (.bool true) args=true :=
 postW_of (r:=l.row.toRowW) (X:=(true == true))
  (show WShape.has [] (.bool true) .bool=true by first | rfl | decide | simp [WShape.has,WShape.arms,WShape.armsAll])
  (show (WTm.eq .res (.lit (.bool true))).value [] { args:=args,res:=some (.bool true),after:=args }=some (.bool (true == true)) from w_eq_bool (w_res rfl) w_lit) rfl
theorem attach_call {l:OpenLaw}{n:Nat}{q:Program}{loose:List Str}{XP:(Str->Option ag)->Heap->Prop}{YP:b9->Heap->Prop}{d:DefRec}
  (hn:l.most=some n) (hdf:d.params.defaults=[])
  (call:∀(w:b9) (s₀ s₁:Shared) (mg mb:Str->Option ag) (fa:Addr) (o:Obj) (pm cd doc:ag) (a:Addr) (vs:List ag) (ns:List Int),
   Ground q loose [] XP w s₀ mg mb s₁.heap->YP w s₁.heap ->
   s₁.heap.get? fa=some o->o.data = .func (docDef d.name d.params d.body d.scope pm cd doc)->s₁.heap.CodeRec cd d.name->mg d.name=some (.ref fa) ->
   s₁.heap.get? a=some { cls:=.type "list",data:=.seq vs.toArray }->cX vs ns->ns.length<=n->s₁.gens = #[] ->
   cO (aD l.prog w) n6 (.call (.ref fa) ⟨[.ref a],[]⟩) (λr s'=>r = .ok (.ret (.bool true))/\OldK s₁.heap s'.heap/\s'.os=s₁.os/\i9 s'.gens) s₁) :
  WalkO q loose XP YP l.row.toRowW d [] (λf vs=>PySem.call f vs):=by
 intro w s₀ s₁ mg mb G Y fa o pm cd doc dV kV ho hd hcd hD hmg hg args vals as hpre hlay hrd hwl hlo
 obtain rfl:dV = .none:=Dflts.none hD hdf
 obtain rfl:kV = .none:=Dflts.noKw hD
 obtain ⟨a,vs,ns,rfl,rfl,hobj,hints,hlen⟩:=Y0 hn hpre hwl
 refine enter_call (dz (call w s₀ s₁ mg mb fa o pm cd doc a vs ns G Y ho (fd_plain hd) hcd hmg hobj hints hlen hg) λr s' hq=>?_)
 obtain ⟨rfl,h2,h3,h4⟩:=hq
 exact ⟨.inl ⟨.bool true,.bool true,[],rfl,λ_=>rfl,.bool true,YN l _,λ_=>⟨fM,λ_ hm=>(nomatch hm)⟩⟩,h2,h3,h4⟩
section
variable {prog:Program}{w:b9}{A:bj}{E:ag->Shared->Prop}{s:Shared}{K:Frag}
noncomputable def ledger (h:Heap) (L d:Addr):List (Addr×Obj):=(aG h.objs.size).filterMap λa=>if a=L\/a=d then none else (h.get? a).map λo=>(a,o)
end
end Att
namespace L2
theorem uY:∀{vs:List ag}{ns:List Int},cX vs ns->jC (ns.map V.int) vs
 | _,_,.nil=>.nil
 | _,_,.cons n t h=>.cons ⟨t,rfl⟩ (uY h)
end L2
namespace L2
end L2
namespace L2
noncomputable def zg (s:Stmt) (j:Nat):Stmt:=match s with
 | .ClassDef _ _ _ body _ _ _ _ _ _ _=>body.getD j (.Pass ⟨0,0,0,0⟩)
 | _=>.Pass ⟨0,0,0,0⟩
noncomputable def qg (s:Stmt):Arguments:=match s with
 | .FunctionDef _ a _ _ _ _ _ _ _ _=>a
 | _=>{ posonlyargs:=[],args:=[],vararg:=none,kwonlyargs:=[],kw_defaults:=[],kwarg:=none,defaults:=[] }
noncomputable def jT (s:Stmt):List Stmt:=match s with
 | .FunctionDef _ _ b _ _ _ _ _ _ _=>b
 | _=>[]
noncomputable def j8 (s:Stmt):Scope:=match s with
 | .FunctionDef _ _ _ _ _ _ sc _ _ _=>sc
 | _=>{ kind:=.function,names:=[],isGenerator:=false,isCoroutine:=false }
noncomputable abbrev CX0:CXT:=λ_ _ _ _ _ _=>False
noncomputable abbrev E0:XK:=λ_ _ _=>False
theorem Wa {X:Cx}:JZ CX0 X E0:=λ_ _ _ _ _ _ _ h=>h.elim
structure Fun (K:ah) (x qual:Str) (st:Stmt) (f:Addr) (fd:FuncData):Prop where
 ex:∃(oc:ag) (od:Option Addr) (kV doc pm:ag) (an:Option Addr) (cdv ct:ag) (osl:Array (Option ag)),
  fd=bD x qual (qg st) (jT st) (j8 st) .none kV doc pm an cdv ct/\K.lookup f=some ⟨oc,od,.func fd,osl⟩/\cx K cdv qual=true
 kp:bV K (.ref f)=true
section
variable {P:Program}{w:b9}{K:ah}{mg:Str->Option ag}{base:Heap}
theorem Fun.ok {x qual:Str}{st:Stmt}{f:Addr}{fd:FuncData}{N ps:List Str}{k:Nat}{sp:Sp}(F:Fun K x qual st f fd) (S:FnScope N ps (j8 st)) (len:∀vs H Q E,sp vs H Q E->vs.length=ps.length)
  (hbody:∀(cdv:ag) (A:bj) (outer:List Env) (s:Shared) (H:Hp) (vs:List V) (Q:VK) (E:XK),Room k (A.deeper (lu qual (j8 st) s.heap.objs.size f cdv))->sp vs H Q E ->
   ∃t,PSs (vW CX0 P w K mg base N qual (j8 st) f cdv A outer s H E).nox (jT st) t/\t { nx:=λ_ H'=>Q .non H',rt:=Q } (start N vs) H):FnOk P w K mg base CX0 (k+1) f fd ps sp:=by
 obtain ⟨oc,od,kV,doc,pm,an,cdv,ct,osl,rfl,lk,hcd⟩:=F.ex
 refine Vu lk hcd S len λA outer s H vs Q E hr hsp=>?_
 obtain ⟨t,h,q⟩:=hbody cdv A outer s H vs Q E hr hsp
 exact ⟨t,h.nox,q⟩
theorem Fun.binds {x qual:Str}{st:Stmt}{f:Addr}{fd:FuncData}{ps:List Str}(F:Fun K x qual st f fd)
  (h:∀(kV doc pm:ag) (an:Option Addr) (cdv ct:ag) (us:List ag),us.length=ps.length->cw (bD x qual (qg st) (jT st) (j8 st) .none kV doc pm an cdv ct) ⟨us,[]⟩=pure (ps.zip us)):yE K fd ps []:=by
 obtain ⟨oc,od,kV,doc,pm,an,cdv,ct,osl,rfl,lk,hcd⟩:=F.ex
 exact .all (h kV doc pm an cdv ct)
theorem vU {x qual:Str}{st:Stmt}{f:Addr}{oc:ag}{od an:Option Addr}{osl:Array (Option ag)}{kV doc pm cdv ct:ag}(l:K.lookup f=some ⟨oc,od,.func (bD x qual (qg st) (jT st) (j8 st) .none kV doc pm an cdv ct),osl⟩)
  (c:cx K cdv qual=true) (k:bV K (.ref f)=true):Fun K x qual st f (bD x qual (qg st) (jT st) (j8 st) .none kV doc pm an cdv ct):=⟨⟨oc,od,kV,doc,pm,an,cdv,ct,osl,rfl,l,c⟩,k⟩
end
theorem jR {A:bj}{k:Nat}(hr:Room k A):A.units+1<cLine:=bR (Nat.add_le_add_left (by decide:1<=64) _) hr.units
theorem jg {n:Nat}(h:n<=1000):n<sizeLine:=bR h ⋯
section
variable {X:Cx}
theorem pv (i:Nat) {x:Str}{pos:Pos}(hN:X.N[i]? = some x:=by rfl) (hv:Vis X.env.scope x:=by first | exact aP rfl | exact iS (aP rfl) | exact iS (iS rfl)) (hd:(x == ("__debug__" : Str))=false:=by decide)
  (hcd:(x == ("__classdict__" : Str))=false:=by decide):PE X (.Name x pos) (Zd i):=Wr hN hv hd hcd
end
theorem kO {A B:Prop}(h:B):if false=true then A else B:=by
 rw [if_neg au]
 exact h
theorem vt {A B:Prop}(h:A):if true=true then A else B:=by
 rw [if_pos rfl]
 exact h
noncomputable def jn (H H':Hp):Prop:=∀b o,H b=some o->H' b=some o
theorem jn.refl (H:Hp):jn H H:=λ_ _ h=>h
theorem jn.trans {H H1 H2:Hp}(a:jn H H1) (b:jn H1 H2):jn H H2:=λc o h=>b c o (a c o h)
theorem jn.free {H H':Hp}(e:jn H H') {l:Addr}(h:H' l=Option.none):H l=Option.none:=by
 cases q:H l with
 | none=>rfl
 | some o =>
  rw [e l o q] at h
  cases h
end L2
section
namespace L2
theorem Zn (env:Env) (f:Str×fJ->List (Str×Addr)->Sem (ForInStep (List (Str×Addr))))
  (hf:∀n k r,f (n,k) r=if (k == bc)=true then (sH env n >>= λa=>pure (bW ((n,a)::r))) else pure (bW r)) :
  ∀(names:List (Str×fJ)) (acc:List (Str×Addr)),(∀x∈names,x.2 = .free->∃c,env.cells.lookup x.1=some c) ->
  ∃cl,sR names acc f=pure cl/\∀x,cl.lookup x=if (x,bc)∈names then env.cells.lookup x else acc.lookup x:=by
 intro names
 induction names with
 | nil=>intro acc _;exact ⟨acc,rfl,λx=>by rw [if_neg (by simp)]⟩
 | cons y r ih =>
  intro acc h
  obtain ⟨n,k⟩:=y
  have hr:∀x∈r,x.2 = .free->∃c,env.cells.lookup x.1=some c:=λx hx=>h x (aE _ hx)
  by_cases hk:k = .free
  ·subst hk
   obtain ⟨c,hc⟩:=h (n,.free) aI rfl
   obtain ⟨cl,e,p⟩:=ih ((n,c)::acc) hr
   refine ⟨cl,?_,λx=>?_⟩
   ·rw [iu,hf,if_pos (by rfl)]
    have e1:sH env n=pure c:=by unfold sH;rw [hc]
    rw [e1]
    exact e
   ·rw [p x]
    by_cases hx:x=n
    ·subst hx
     rw [if_pos (aI),cp,beq_self_eq_true]
     by_cases hm:(x,bc)∈r
     ·rw [if_pos hm]
     ·rw [if_neg hm];exact hc.symm
    ·have hb:(x == n)=false:=beq_eq_false_iff_ne.mpr hx
     rw [cp,hb]
     by_cases hm:(x,bc)∈r
     ·rw [if_pos hm,if_pos (aE _ hm)]
     ·rw [if_neg hm,if_neg (by
       intro z
       rcases List.mem_cons.mp z with z | z
       ·exact hx (congrArg Prod.fst z)
       ·exact hm z)]
  ·obtain ⟨cl,e,p⟩:=ih acc hr
   have hb:(k == bc)=false:=by simpa using hk
   refine ⟨cl,?_,λx=>?_⟩
   ·rw [iu,hf,hb,if_neg au]
    exact e
   ·rw [p x]
    by_cases hm:(x,bc)∈r
    ·rw [if_pos hm,if_pos (aE _ hm)]
    ·rw [if_neg hm,if_neg (by
      intro z
      rcases List.mem_cons.mp z with z | z
      ·exact hk (congrArg sS z).symm
      ·exact hm z)]
theorem vL {scope:Scope}{env:Env}(h:∀x∈scope.names,x.2 = .free->∃c,env.cells.lookup x.1=some c) :
  ∃cl,nN scope env=pure cl/\∀x,cl.lookup x=if (x,bc)∈scope.names then env.cells.lookup x else none:=by
 have hh:=Zn env (λ(x:Str×fJ) r=>match x with | (n,k)=>if (k == bc)=true then (sH env n >>= λa=>pure (bW ((n,a)::r))) else pure (bW r)) (λ_ _ _=>rfl) scope.names [] h
 obtain ⟨cl,e,p⟩:=hh
 refine ⟨cl,?_,λx=>by rw [p x];rfl⟩
 unfold nN
 have e':sR scope.names ([]:List (Str×Addr)) (λ(x:Str×fJ) r=>match x with | (n,k)=>if (k == bc)=true then (sH env n >>= λa=>pure (bW ((n,a)::r))) else pure (bW r))=(pure cl:Sem _):=e
 show (sR scope.names ([]:List (Str×Addr)) _ >>= λcs=>pure cs)=_
 first
  | (rw [e'];rfl)
  | (simp only [bind_pure];exact e')
structure CompSc (osc:Scope) (ON:List Str) (scope:Scope) (own:Nat) (N:List Str) (caps:List Nat):Prop where
 kind:scope.kind = .function
 nocell:∀y∈scope.names,y.2≠.cell
 loc:∀y∈scope.names,y.2 = .local->scope.names.lookup y.1=some .local
 fre:∀y∈scope.names,y.2 = .free->scope.names.lookup y.1=some .free/\(osc.names.lookup y.1=some .cell\/osc.names.lookup y.1=some .free)
 len:N.length=own+caps.length
 cap:∀p∈(N.drop own).zip caps,ON[p.2]? = some p.1/\(p.1,bc)∈scope.names
noncomputable def vy (own:Nat) (caps:List Nat) (σ:St):St:=df own none++caps.map λj=>(σ[j]?).getD none
noncomputable def Cx.block (X:Cx) (scope:Scope) (cl:List (Str×Addr)) (C:Addr) (N:List Str) (s:Shared) (H:Hp) (ex:List Addr):Cx :=
 { X with N:=N,s₀:=s,H₀:=H,env:=rH scope cl C X.env,outer:=X.stack,ex:=ex,fn:=λx=>decide (scope.names.lookup x=some .local),pn:=[],xe:=λ_ _=>False }
theorem yx {env:Env}:∀{names:List (Str×fJ)}{x:Str}{k:fJ},
  (names.map λ(n,k)=>if (k == bc && env.scope.kind == .function && env.kindOf n == some .cell) then (n,ib) else (n,k)).lookup x=some k ->
  ∃k',names.lookup x=some k'/\(k'=k\/(k' = .free/\k = .cell))
 | [],_,_,h=>by simp at h
 | (n,k0)::r,x,k,h=>by
  have ih:=@yx env r x k
  have h':dS x ((if (k0 == bc && env.scope.kind == .function && env.kindOf n == some .cell)=true then (n,ib) else (n,k0))::r.map λ(n,k)=>if (k == bc && env.scope.kind == .function && env.kindOf n == some .cell) then (n,ib) else (n,k))=some k:=h
  cases hx:x == n with
  | true =>
   by_cases hc:(k0 == bc && env.scope.kind == .function && env.kindOf n == some .cell)=true
   ·rw [if_pos hc,cp,hx] at h'
    cases h'
    refine ⟨k0,by rw [cp,hx],.inr ⟨?_,rfl⟩⟩
    rw [bf,bf] at hc
    exact eq_of_beq hc.1.1
   ·rw [if_neg hc,cp,hx] at h'
    cases h'
    exact ⟨k0,by rw [cp,hx],.inl rfl⟩
  | false =>
   have h2:dS x (r.map λ(n,k)=>if (k == bc && env.scope.kind == .function && env.kindOf n == some .cell) then (n,ib) else (n,k))=some k:=by
    by_cases hc:(k0 == bc && env.scope.kind == .function && env.kindOf n == some .cell)=true
    ·rw [if_pos hc,cp,hx] at h';exact h'
    ·rw [if_neg hc,cp,hx] at h';exact h'
   obtain ⟨k',e,d⟩:=ih h2
   exact ⟨k',by rw [cp,hx];exact e,d⟩
noncomputable def Jy (X:Cx) (ifs:List Expr) (t:TT):Prop :=
 ∀(pins:List (Addr×Obj)) (s:Shared) (σ:St) (H:Hp) (Q:Bool->Hp->Prop),Inv X pins σ H s->t σ H Q ->
  ay (aD X.prog X.w) X.A (sR ifs true λc r=>if r=true then do let ok <- isTrue c X.env (eval c X.env);pure (bW ok) else pure (bW r)) (TP X pins σ Q) X.xe s
noncomputable def Ea:TT:=λ_ H Q=>Q true H
theorem jK {X:Cx}:Jy X [] Ea:=λ_ _ _ H _ I h=>wpAny_tests_nil ⟨H,I,h⟩
theorem yQ {X:Cx}{c:Expr}{t:TT}(h:PT X c t):Jy X [c] t:=λpins s σ H Q I hw=>wpAny_tests_one (h pins s σ H Q I hw)
section
variable {prog:Program}{w:b9}{A:bj}{R:mH->Shared->Prop}{s:Shared}
theorem Qq {elt target iter:Expr}{ifs:List Expr}{scope:Scope}{pos:Pos}{it acc:ag}{env:Env}(I:Nat->Shared->Prop)
  (turn:∀n s,I n s->ay (aD prog w) A (fG it) (λr s₁=>match r with
   | none=>R (.ok .next) s₁
   | some v=>ay (aD prog w) A (cS target it v) (λ_ s₂=>ay (aD prog w) A (ip target env v) (λ_ s₃ =>
     ay (aD prog w) A (sR ifs true λc r=>if r=true then do let ok <- isTrue c env (eval c env);pure (bW ok) else pure (bW r)) (λok s₄ =>
      if ok=true then ay (aD prog w) A (eval elt env) (λx s₅ =>
       ay (aD prog w) A (call (.builtin "list.append") [acc,x]) (λ_ s₆=>∃m,m<n/\I m s₆) (λ_ _=>False) s₅) (λ_ _=>False) s₄
      else ∃m,m<n/\I m s₄) (λ_ _=>False) s₃) (λ_ _=>False) s₂) (λ_ _=>False) s₁) (λ_ _=>False) s)
  (n:Nat) (h:I n s) :
  cO (aD prog w) A (.compLoop (.ListComp elt [⟨target,iter,ifs,0⟩] scope pos) 0 it acc env) R s:=by
 refine oB rfl I (λn s hI=>?_) n h
 show ay _ A ((oC (.ListComp elt [⟨target,iter,ifs,0⟩] scope pos) 0 it acc env).onRaise (λx=>do iL x env;mh x)) _ _ s
 refine pK ?_
 rw [compTurn_list]
 refine ae (cY (ae (ba (turn n s hI) (λr s₁ h₁=>?_) λ_ _ h'=>h'.elim)))
 cases r with
 | none=>exact wpAny_pure h₁
 | some v =>
  refine ae (ba h₁ (λ_ s₂ h₂=>?_) λ_ _ h'=>h'.elim)
  refine ae (ba h₂ (λ_ s₃ h₃=>ae (ba h₃ (λok s₄ h₄=>?_) λ_ _ h'=>h'.elim)) λ_ _ h'=>h'.elim)
  cases ok with
  | false=>exact wpAny_pure ⟨rfl,h₄⟩
  | true =>
   exact ae (ae (ba h₄ (λx s₅ h₅=>ae (ba h₅ (λ_ s₆ h₆=>wpAny_pure (wpAny_pure ⟨rfl,h₆⟩)) λ_ _ h'=>h'.elim)) λ_ _ h'=>h'.elim))
end
section
variable {X:Cx}{pos:Pos}
noncomputable def Wd (own:Nat) (caps:List Nat) (wi:TI) (g:TG) (ti:TT) (te:TE):TE:=λσ H Q=>wi σ H λJ H1=>∀acc,H1 acc=none ->
 ∃W:Nat->Nat->St->Hp->Prop,(∃m,W 0 m (vy own caps σ) (upd H1 acc (.lst [])))/\∀i m σ' H',W i m σ' H' ->
  (J.stop i H'/\Q (.ref acc) H') \/
  (J.go i H'/\∃NX:St->Hp->Prop,(∀σ2 H2,NX σ2 H2->∃m',m'<m/\W (i+1) m' σ2 H2) /\
   ∀x H2,J.yld i H' x H2->g x σ' H2 λσ3 H3=>ti σ3 H3 λok H4=>if ok=true then te σ3 H4 λv H5=>∃ys,H5 acc=some (.lst ys)/\ys.length<sizeLine/\NX σ3 (upd H5 acc (.lst (ys++[v]))) else NX σ3 H4)
theorem YU {osc:Scope}{ON N:List Str}{scope:Scope}{own:Nat}{caps:List Nat}{cl:List (Str×Addr)}{C:Addr}{pins:List (Addr×Obj)}{σ:St}{H:Hp}{s:Shared}{fp:List Addr}
  (S:CompSc osc ON scope own N caps) (hsc:X.env.scope=osc) (hcl:∀x,cl.lookup x=if (x,bc)∈scope.names then X.env.cells.lookup x else none)
  (I:Inv X pins σ H s) (hC:s.heap.objs.size<=C) (hf:∀b∈fp,uZ X pins H b) (hfs:∀b∈fp,b<s.heap.objs.size):(X.block scope cl C N s H fp).Ok:=by
 have fromX:∀x c,cl.lookup x=some c->X.env.cells.lookup x=some c/\(x,bc)∈scope.names:=λx c e=>by
  rw [hcl x] at e
  by_cases hm:(x,bc)∈scope.names
  ·rw [if_pos hm] at e;exact ⟨e,hm⟩
  ·rw [if_neg hm] at e;cases e
 refine ⟨I.ok.mod,S.kind,I.ok.glob,I.ok.blt,hC,λx y c h1 h2=>I.ok.inj x y c (fromX x c h1).1 (fromX y c h2).1,λx hx=>?_,λx c h1 h2=>?_,I.ok.hd,I.ok.frames,.inl rfl,λb hb=>?_,I.bs,aF I.ok.bsz I.sz,λb o e hb=>?_,λb hb hb2=>?_,I.stack,I.stkFree⟩
 ·-- has
  have key:∀k,(k=ib\/k=bc)->(relabel scope X.env).names.lookup x=some k->∃c,cl.lookup x=some c:=λk hk e=>by
   obtain ⟨k',e',d⟩:=yx (env:=X.env) e
   have hmem:=cV e'
   have hfree:k' = .free:=by
    rcases d with d | d
    ·subst d
     rcases hk with z | z
     ·exact absurd z (S.nocell _ hmem)
     ·exact z
    ·exact d.1
   subst hfree
   obtain ⟨_,hk2⟩:=S.fre _ hmem rfl
   obtain ⟨c,hc⟩:=I.ok.has x (by unfold rJ;rw [hsc];exact hk2)
   exact ⟨c,by rw [hcl x,if_pos hmem];exact hc⟩
  rcases hx with z | z
  ·exact key _ (.inl rfl) z
  ·exact key _ (.inr rfl) z
 ·-- cab
  have h1':scope.names.lookup x=some .local:=of_decide_eq_true h1
  have hm:=(fromX x c h2).2
  have:=(S.fre _ hm rfl).1
  rw [h1'] at this
  cases this
 ·refine ⟨aA (aQ (hfs b hb) hC),λx c e=>(hf b hb).2.2.2.2.1 x c (fromX x c e).1⟩
 ·rcases (hf b hb).2.2.2.1 with z | z
  ·exact I.ok.noex b o e z
  ·exact absurd (aQ (aw e) (aF I.ok.bsz z)) (cq _)
 ·rcases List.mem_cons.mp (I.stkSub b hb2) with z | z
  ·exact (hf b hb).2.1 z
  ·exact (hf b hb).2.2.1 z
theorem wj {osc:Scope}{ON N:List Str}{scope:Scope}{own:Nat}{caps:List Nat}{cl:List (Str×Addr)}{C D:Addr}{pins:List (Addr×Obj)}{σ:St}{H:Hp}{s:Shared}{h1:Heap}{fp:List Addr}
  (S:CompSc osc ON scope own N caps) (hsc:X.env.scope=osc) (hN:X.N=ON) (hcl:∀x,cl.lookup x=if (x,bc)∈scope.names then X.env.cells.lookup x else none)
  (I:Inv X pins σ H s) (hf:∀b∈fp,uZ X pins H b) (hfs:∀b∈fp,b<s.heap.objs.size) (hD:D=s.heap.objs.size) (hC:C=s.heap.objs.size+1)
  (k:∀b o,s.heap.get? b=some o->h1.get? b=some o) (eD:h1.get? D=some { cls:=.type "list",data:=.seq #[] }) (hn:h1.Ns C λ_=>none) (t':Nat) :
  Inv (X.block scope cl C N s H fp) [] (vy own caps σ) (upd H D (.lst [])) { s with heap:=h1,toks:=t' }:=by
 subst hD
 subst hC
 have hCs:s.heap.objs.size<=s.heap.objs.size+1:=fB _
 have ok:=YU (C:=s.heap.objs.size+1) S hsc hcl I hCs hf hfs
 have fromX:∀x c,cl.lookup x=some c->X.env.cells.lookup x=some c/\(x,bc)∈scope.names:=λx c e=>by
  rw [hcl x] at e
  by_cases hm:(x,bc)∈scope.names
  ·rw [if_pos hm] at e;exact ⟨e,hm⟩
  ·rw [if_neg hm] at e;cases e
 have fr:∀a,s.heap.objs.size<=a->H a=none:=λa ha=>I.hok.fresh ha
 have newD:qi X.prog X.w (upd H s.heap.objs.size (.lst [])) h1 s.heap.objs.size (.lst []):=⟨aC _,[],0,.nil,eD⟩
 have cellK:∀x c,X.env.cells.lookup x=some c->∀v,s.heap.IsCell c v->h1.IsCell c v:=λx c _ v ⟨o,ho,hd⟩=>⟨o,k c o ho,hd⟩
 refine ⟨ok,rfl,I.bare,Un.laid k (aq _) (fr _ (aq _)),⟨_,hn,λi x v e1 e2 e3=>?_⟩,λx c e=>?_,?_,λx c e=>?_,λp hp=>absurd (show p∈([]:List (Addr×Obj)) from hp) (by simp),I.hok.laid k (aq _) newD,?_⟩
 ·-- the captured names
  have e1':N[i]? = some x:=e1
  have hi:own<=i:=by
   by_cases hi:own<=i
   ·exact hi
   ·unfold vy at e2
    rw [cI (by simp;omega),lM] at e2
    split at e2 <;> cases e2
  obtain ⟨j',rfl⟩:∃j',i=own+j':=⟨i-own,∅⟩
  have e2':(caps.map λj=>(σ[j]?).getD none)[j']? = some (some v):=by
   unfold vy at e2
   rw [c5 (by simp)] at e2
   simpa using e2
  rw [av] at e2'
  cases hj:caps[j']? with
  | none=>rw [hj] at e2';cases e2'
  | some j =>
   rw [hj] at e2'
   have e3':(σ[j]?).getD none=some v:=aR e2'
   have e4:σ[j]? = some (some v):=by
    cases q:σ[j]? with
    | none=>rw [q] at e3';cases e3'
    | some z=>rw [q] at e3';exact congrArg some e3'
   have hz:(x,j)∈(N.drop own).zip caps:=by
    refine ax (i:=j') ?_
    rw [List.getElem?_zip_eq_some]
    exact ⟨by rw [nO];exact e1',hj⟩
   obtain ⟨c1,c2⟩:=S.cap _ hz
   obtain ⟨_,hk⟩:=S.fre _ c2 rfl
   have hkX:X.env.kindOf x=some .cell\/X.env.kindOf x=some .free:=by unfold rJ;rw [hsc];exact hk
   obtain ⟨m,hm,hl⟩:=I.loc
   obtain ⟨u,ru,l⟩:=hl j x v (by rw [hN];exact c1) e4 (by
    rcases hkX with z | z
    ·exact .inr (.inl z)
    ·exact .inr (.inr z))
   refine ⟨u,ru,?_⟩
   rcases l with ⟨l1,_⟩ | ⟨_,c,lc,lv⟩
   ·rcases hkX with z | z
    ·rw [z] at l1;cases l1
    ·rw [z] at l1;cases l1
   ·refine .inr ⟨?_,c,by show cl.lookup x=some c;rw [hcl x,if_pos c2];exact lc,cellK x c lc _ lv⟩
    rcases e3 with z | z
    ·obtain ⟨k',e',d⟩:=yx (env:=X.env) z
     have:=(S.fre _ c2 rfl).1
     rw [e'] at this
     cases this
     rcases d with d | d
     ·cases d
     ·cases d.2
    ·exact z
 ·obtain ⟨v,z⟩:=I.cell x c (fromX x c e).1
  exact ⟨v,cellK x c (fromX x c e).1 v z⟩
 ·show upd H s.heap.objs.size (.lst []) (s.heap.objs.size+1)=none
  rw [j6 (cW (i7 _))]
  exact fr _ hCs
 ·have e':=(fromX x c e).1
  obtain ⟨v,z⟩:=I.cell x c e'
  rw [j6 (aA z.lt)]
  exact I.freeC x c e'
 ·unfold vy
  show _=N.length
  rw [ak,eL,af,S.len]
structure BlockAt (X:Cx) (pins:List (Addr×Obj)) (H:Hp) (C:Addr):Prop where
 free:H C=none
 loc:C≠X.env.locals
 new:X.s₀.heap.objs.size<=C
 cell:∀x c,X.env.cells.lookup x=some c->c≠C
 pin:∀p∈X.pn++pins,p.1≠C
theorem BlockAt.gone {pins:List (Addr×Obj)}{σ:St}{H:Hp}{C:Addr}{s:Shared}{h':Heap}(B:BlockAt X pins H C) (I:Inv X pins σ H s) (hs:dY C s.heap h'):Inv X pins σ H { s with heap:=h' } :=
 I.turned (t':=s.toks) (λb o hb e=>(hs.2 b hb).trans e) B.free B.loc (.inr B.new) B.cell B.pin
theorem Q6 {osc:Scope}{ON N:List Str}{scope:Scope}{own:Nat}{caps:List Nat}{cl:List (Str×Addr)}{tg elt iter:Expr}{ifs:List Expr}{g:TG}{ti:TT}{te:TE}{pins:List (Addr×Obj)}{σ:St}{H:Hp}{s:Shared}{fp:List Addr}{it:Addr}
  {tn:Nat->Heap->Prop} {J:It} {Q:VK} {RR:ag->Addr->mH->Shared->Prop} {E:ag->Shared->Prop}
  (hc:X.calm=true) (S:CompSc osc ON scope own N caps) (hsc:X.env.scope=osc) (hN:X.N=ON) (hcl:∀x,cl.lookup x=if (x,bc)∈scope.names then X.env.cells.lookup x else none)
  (hg:∀cl C s H ex,PG (X.block scope cl C N s H ex) tg g) (hif:∀cl C s H ex,Jy (X.block scope cl C N s H ex) ifs ti) (he:∀cl C s H ex,PE (X.block scope cl C N s H ex) elt te)
  (I:Inv X pins σ H s) (T:Turn X.prog X.w X.K tg J fp it tn) (st:tn 0 s.heap) (hf:∀b∈fp,uZ X pins H b)
  (hw:∀acc,H acc=none->∃W:Nat->Nat->St->Hp->Prop,(∃m,W 0 m (vy own caps σ) (upd H acc (.lst [])))/\∀i m σ' H',W i m σ' H' ->
   (J.stop i H'/\Q (.ref acc) H')\/(J.go i H'/\∃NX:St->Hp->Prop,(∀σ2 H2,NX σ2 H2->∃m',m'<m/\W (i+1) m' σ2 H2) /\
    ∀x H2,J.yld i H' x H2->g x σ' H2 λσ3 H3=>ti σ3 H3 λok H4=>if ok=true then te σ3 H4 λv H5=>∃ys,H5 acc=some (.lst ys)/\ys.length<sizeLine/\NX σ3 (upd H5 acc (.lst (ys++[v]))) else NX σ3 H4))
  (fin:∀(D C:Addr) (H':Hp) (s':Shared),Inv X pins σ H' s'->BlockAt X pins H' C->(∃m,s'.heap.Ns C m)->Q (.ref D) H'->RR (.ref D) C (.ok .next) s') :
  ay (aD X.prog X.w) X.A (pV []) (λacc s₃=>ay (aD X.prog X.w) X.A (rK scope X.env.globals cl [] X.env.qual none .none (some X.env)) (λcenv s₄ =>
   cO (aD X.prog X.w) X.A (.compStart (.ListComp elt [⟨tg,iter,ifs,0⟩] scope pos) 0 (.ref it) acc { cenv with scope:=relabel scope X.env }) (RR acc cenv.locals) s₄) E s₃) E s:=by
 have hfs:∀b∈fp,b<s.heap.objs.size:=λb hb=>by
  obtain ⟨o,e,_⟩:=T.obj _ _ st b hb
  exact aw e
 refine c9 (mK S.nocell (by intro y hy;simp at hy) (λh₁ hns₁ hsb₁=>?_) S.kind)
 dsimp only at hns₁ hsb₁ ⊢
 generalize hH2:s.heap.push { cls:=.type "list",dict:=none,data:=.seq ([]:List ag).toArray }=H2 at hns₁ hsb₁ ⊢
 have hCsz:H2.objs.size=s.heap.objs.size+1:=by rw [<- hH2,cv]
 have old:∀b o,s.heap.get? b=some o->h₁.get? b=some o:=λb o e=>hsb₁.extBut b o (aA (by rw [hCsz];exact cc (aw e))) (ai _ (hH2 ▸ ai _ e))
 have eD:h₁.get? s.heap.objs.size=some { cls:=.type "list",data:=.seq #[] }:=hsb₁.extBut _ _ (aA ∅) (ai _ (hH2 ▸ az _ rfl))
 have hDn:H s.heap.objs.size=none:=I.hok.fresh (aq _)
 obtain ⟨W,⟨m0,w0⟩,turn⟩:=hw s.heap.objs.size hDn
 have hns:h₁.Ns H2.objs.size λ_=>none:=hns₁
 have I1:Inv (X.block scope cl H2.objs.size N s H fp) [] (vy own caps σ) (upd H s.heap.objs.size (.lst [])) { s with heap:=h₁,toks:=s.toks+([]:List (Str×ag)).length } :=
  wj S hsc hN hcl I hf hfs rfl hCsz old eD hns _
 have st1:tn 0 h₁:=T.keep 0 _ _ st λb _ o e=>old b o e
 have fpB:∀{H':Hp},(∀b∈fp,H' b=none)->∀b∈fp,uZ (X.block scope cl H2.objs.size N s H fp) [] H' b:=λ{H'} hn b hb=>by
  have ok:=I1.ok
  exact ⟨hn b hb,(ok.exf b hb).1,ok.exfs b hb,.inl hb,(ok.exf b hb).2,λp hp=>absurd (show p∈([]:List (Addr×Obj)) from hp) (by simp)⟩
 have back:∀{σ':St} {H':Hp} {s':Shared},Inv (X.block scope cl H2.objs.size N s H fp) [] σ' H' s'->Q (.ref s.heap.objs.size) H'->RR (.ref s.heap.objs.size) H2.objs.size (.ok .next) s':=λ{σ' H' s'} J1 q=>by
  have J2:Inv X pins σ H' s':=I.call' (ch:=fp) J1.os J1.base J1.hok J1.bare λb hb=>⟨(hf b hb).2.2.2.1,(hf b hb).2.1,(hf b hb).2.2.2.2.1,(hf b hb).2.2.2.2.2⟩
  obtain ⟨m,hm,_⟩:=J1.loc
  refine fin _ _ H' s' J2 ⟨J1.free,cW (aQ I.lt ∅),aF I.sz ∅,λx c e z=>?_,λp hp z=>?_⟩ ⟨m,hm⟩ q
  ·obtain ⟨v,y⟩:=I.cell x c e
   have h1:H2.objs.size<s.heap.objs.size:=z ▸ y.lt
   exact absurd h1 ∅
  ·have h1:H2.objs.size<s.heap.objs.size:=z ▸ aw (I.pin p hp).1
   exact absurd h1 ∅
 have loop:∀s₃:Shared,s₃={ s with heap:=h₁,toks:=s.toks+([]:List (Str×ag)).length } ->
   cO (aD X.prog X.w) X.A (.compLoop (.ListComp elt [⟨tg,iter,ifs,0⟩] scope pos) 0 (.ref it) (.ref s.heap.objs.size) (rH scope cl H2.objs.size X.env)) (RR (.ref s.heap.objs.size) H2.objs.size) s₃:=by
  rintro s₃ rfl
  refine Qq (λn s'=>∃i σ' H',Inv (X.block scope cl H2.objs.size N s H fp) [] σ' H' s'/\tn i s'.heap/\(∀b∈fp,H' b=none)/\W i n σ' H') ?_ m0
   ⟨0,_,_,I1,st1,λb hb=>by rw [j6 (aA (hfs b hb))];exact (hf b hb).1,w0⟩
  rintro n s3 ⟨i,σ3,H3,I3,st3,fr3,w3⟩
  rcases turn i n σ3 H3 w3 with ⟨stop,qn⟩ | ⟨go,NX,hNX,step⟩
  ·refine thn (T.done (X.block scope cl H2.objs.size N s H fp) rfl rfl rfl hc i [] s3 σ3 H3 _ I3 (fpB fr3) st3 stop) λr s4 ⟨hr,I4⟩=>?_
   subst hr
   exact back I4 qn
  ·refine thn (T.item (X.block scope cl H2.objs.size N s H fp) rfl rfl rfl hc i [] s3 σ3 H3 _ I3 (fpB fr3) st3 go) λr s4 ⟨u,hr,h4⟩=>?_
   subst hr
   refine thn h4 λ_ s5 ⟨x,H5,I5,r5,y5,st5,fr5⟩=>?_
   have I5':=I5.pinned (fpB fr5) (T.obj _ _ st5)
   refine thn (hg cl H2.objs.size s H fp _ s5 σ3 H5 x u _ I5' r5 (step x H5 y5)) λ_ s6 ⟨σ6,H6,I6,q6⟩=>?_
   refine thn (hif cl H2.objs.size s H fp _ s6 σ6 H6 _ I6 q6) λok s7 ⟨H7,I7,q7⟩=>?_
   have again:∀{s8:Shared} {σ8:St} {H8:Hp},Inv (X.block scope cl H2.objs.size N s H fp) ([]++zr fp s5.heap) σ8 H8 s8->NX σ8 H8->∃m,m<n/\∃i σ' H',Inv (X.block scope cl H2.objs.size N s H fp) [] σ' H' s8/\tn i s8.heap/\(∀b∈fp,H' b=none)/\W i m σ' H':=λ{s8 σ8 H8} I8 n8=>by
    obtain ⟨m',hm,w8⟩:=hNX σ8 H8 n8
    refine ⟨m',hm,i+1,σ8,H8,I8.unpinned,T.keep _ _ _ st5 λb hb o e=>(I8.pin (b,o) (aH _ (aH _ (qV hb e)))).1,λb hb=>?_,w8⟩
    obtain ⟨o,e,d⟩:=T.obj _ _ st5 b hb
    exact (I8.pin (b,o) (aH _ (aH _ (qV hb e)))).2.1
   cases ok with
   | false =>
    rw [if_neg au] at q7 ⊢
    exact again I7 q7
   | true =>
    rw [if_pos rfl] at q7 ⊢
    refine thn (he cl H2.objs.size s H fp _ s7 σ6 H7 _ I7 q7) λv s8 ⟨y,H8,I8,r8,ys,e8,z8,q8⟩=>?_
    refine thn (jZ _ s8 σ6 H8 (.ref s.heap.objs.size) [y] _ [v] (λ_ H9=>NX σ6 H9) I8 rfl (.cons r8 .nil) ⟨_,ys,y,rfl,rfl,e8,z8,q8⟩) λ_ s9 ⟨_,H9,I9,_,q9⟩=>?_
    exact again I9 q9
 exact lZ (loop _ rfl) (T.self _ 0 _ _ _ st1 (loop _ rfl))
theorem XW {osc:Scope}{ON N:List Str}{scope:Scope}{own:Nat}{caps:List Nat}{pins:List (Addr×Obj)}{σ:St}{H:Hp}{s:Shared}(S:CompSc osc ON scope own N caps) (hsc:X.env.scope=osc) (I:Inv X pins σ H s) :
  ∀x∈scope.names,x.2 = .free->∃c,X.env.cells.lookup x.1=some c:=λx hx hk=>I.ok.has x.1 (by unfold rJ;rw [hsc];exact (S.fre x hx hk).2)
theorem jY {osc:Scope}{ON N:List Str}{scope:Scope}{own:Nat}{caps:List Nat}{tg elt iter:Expr}{ifs:List Expr}{wi:TI}{g:TG}{ti:TT}{te:TE}(S:CompSc osc ON scope own N caps)
  (hc:X.calm=true) (hsc:X.env.scope=osc) (hN:X.N=ON) (hi:PI X tg iter wi)
  (hg:∀cl C s H ex,PG (X.block scope cl C N s H ex) tg g) (hif:∀cl C s H ex,Jy (X.block scope cl C N s H ex) ifs ti) (he:∀cl C s H ex,PE (X.block scope cl C N s H ex) elt te)
  (hs:∀x,cu iter X.env x=pure x:=by intro _;rfl):PE X (.ListComp elt [⟨tg,iter,ifs,0⟩] scope pos) (Wd own caps wi g ti te):=by
 intro pins s σ H Q I h
 obtain ⟨cl,hclos,hcl⟩:=vL (XW S hsc I)
 rw [sy]
 refine fi (use:=none) rfl hs hclos S.kind S.loc (thn (hi pins s σ H _ I h) λv s1 h1=>thn h1 λitv s2 h2=>?_)
 obtain ⟨it,fp,tn,J,H2,e,I2,T,st2,f2,hw⟩:=h2
 subst e
 refine Q6 (RR:=λacc C=>sU (aD X.prog X.w) X.A X.xe none (EP X pins σ Q) acc C) hc S hsc hN hcl hg hif he I2 T st2 f2 hw λD C H' s' J1 B ⟨m,hm⟩ q=>?_
 exact ⟨m,hm,λh' hs'=>⟨.ref D,H',B.gone J1 hs',rfl,q⟩⟩
theorem ZQ {osc:Scope}{ON N:List Str}{scope:Scope}{own:Nat}{caps:List Nat}{tg elt iter:Expr}{ifs:List Expr}{wi:TI}{g:TG}{ti:TT}{te:TE}{j:Nat}{y:Str}{py spos:Pos}(S:CompSc osc ON scope own N caps)
  (hnd:X.N.Nodup) (hj:X.N[j]? = some y) (hy:Loc X.env.scope y)
  (hc:X.calm=true) (hsc:X.env.scope=osc) (hN:X.N=ON) (hi:PI X tg iter wi)
  (hg:∀cl C s H ex,PG (X.block scope cl C N s H ex) tg g) (hif:∀cl C s H ex,Jy (X.block scope cl C N s H ex) ifs ti) (he:∀cl C s H ex,PE (X.block scope cl C N s H ex) elt te)
  (hsw:iK (.ListComp elt [⟨tg,iter,ifs,0⟩] scope pos) (some (.Name y py)) spos.line X.env=pure true:=by rfl)
  (hf:X.fn y=true\/X.env.scope.names.lookup y=some .local:=by first | exact .inl rfl | exact .inr rfl | assumption)
  (hs:∀x,cu iter X.env x=pure x:=by intro _;rfl):PS X (.Assign [.Name y py] (.ListComp elt [⟨tg,iter,ifs,0⟩] scope pos) spos) (UI (Wd own caps wi g ti te) (uh j)):=by
 intro pins s σ H D0 I h
 obtain ⟨cl,hclos,hcl⟩:=vL (XW S hsc I)
 rw [exec_Assign_Name_used _ _ _ _ hsw]
 refine ae (cY (ae ?_))
 show ay _ X.A (do let _ <- comprehension (.ListComp elt [⟨tg,iter,ifs,0⟩] scope pos) scope X.env _ (pV []) false (eval iter X.env) (some (ip (.Name y py) X.env))) _ _ s
 refine ae (ba (fi (use:=some (ip (.Name y py) X.env)) (Q:=λ_ s'=>SP X pins D0 .next s') rfl hs hclos S.kind S.loc
  (thn (hi pins s σ H _ I h) λv s1 h1=>thn h1 λitv s2 h2=>?_)) (λ_ s' hq=>wpAny_pure (wpAny_pure hq)) λ_ _ e=>e)
 obtain ⟨it,fp,tn,J,H2,e,I2,T,st2,f2,hw⟩:=h2
 subst e
 refine Q6 (Q:=λv H'=>D0.nx (σ.set j (some v)) H') (RR:=λacc C=>sU (aD X.prog X.w) X.A X.xe (some (ip (.Name y py) X.env)) (λ_ s'=>SP X pins D0 .next s') acc C) hc S hsc hN hcl hg hif he I2 T st2 f2 hw λD C H' s' J1 B ⟨m,hm⟩ q=>?_
 show ay _ X.A (ip (.Name y py) X.env (.ref D)) _ _ s'
 refine oa (Jh (v:=V.ref D) J1 hnd hj hy rfl (λs2 J2 ⟨a,hsame,ha⟩=>?_) hf)
 have hCa:C≠a:=by
  rcases ha with z | z
  ·rw [z];exact B.loc
  ·exact λz2=>B.cell y a z z2.symm
 exact ⟨m,hm.sameBut hsame hCa,λh' hs'=>⟨_,H',B.gone J2 hs',q⟩⟩
end
theorem qp {K:ah}{a acc:Addr}{xs:List V}{g:TG}{ti:TT}{te:TE}{R:Hp->Prop}{σ:St}{H:Hp}(Pv:Nat->St->Hp->Prop) (h0:Pv 0 σ H) (hl:∀i σ H,i<=xs.length->Pv i σ H->SqL K H a xs)
  (hs:∀i x σ H,xs[i]? = some x->Pv i σ H->g x σ H λσ3 H3=>ti σ3 H3 λok H4=>if ok=true then te σ3 H4 λv H5=>∃ys,H5 acc=some (.lst ys)/\ys.length<sizeLine/\Pv (i+1) σ3 (upd H5 acc (.lst (ys++[v]))) else Pv (i+1) σ3 H4)
  (hd:∀σ H,Pv xs.length σ H->R H) :
  ∃W:Nat->Nat->St->Hp->Prop,(∃m,W 0 m σ H)/\∀i m σ' H',W i m σ' H' ->
   ((Itl K a).stop i H'/\R H')\/((Itl K a).go i H'/\∃NX:St->Hp->Prop,(∀σ2 H2,NX σ2 H2->∃m',m'<m/\W (i+1) m' σ2 H2) /\
    ∀x H2,(Itl K a).yld i H' x H2->g x σ' H2 λσ3 H3=>ti σ3 H3 λok H4=>if ok=true then te σ3 H4 λv H5=>∃ys,H5 acc=some (.lst ys)/\ys.length<sizeLine/\NX σ3 (upd H5 acc (.lst (ys++[v]))) else NX σ3 H4):=by
 refine ⟨λi m σ H=>m=xs.length-i/\i<=xs.length/\Pv i σ H,⟨xs.length,by simp,aC _,h0⟩,?_⟩
 rintro i m σ H ⟨rfl,hi,p⟩
 have q:=hl i σ H hi p
 by_cases hlt:i<xs.length
 ·refine .inr ⟨⟨xs,xs[i],q,by simp [hlt]⟩,Pv (i+1),λσ' H' p'=>⟨xs.length-(i+1),∅,rfl,hlt,p'⟩,λx H' y=>?_⟩
  obtain ⟨e,y⟩:=y
  subst e
  exact hs i x σ _ (y xs q) p
 ·have e:i=xs.length:=∅
  subst e
  exact .inl ⟨⟨xs,q,aq _⟩,hd σ H p⟩
theorem QZ {K:ah}{a acc:Addr}{xs:List V}{g:TG}{ti:TT}{te:TE}{R:Hp->Prop}{σ:St}{H:Hp}(Pv:Nat->St->Hp->Prop) (h0:Pv 0 σ H) (hl:∀i σ H,i<=xs.length->Pv i σ H->SqT K H a xs)
  (hs:∀i x σ H,xs[i]? = some x->Pv i σ H->g x σ H λσ3 H3=>ti σ3 H3 λok H4=>if ok=true then te σ3 H4 λv H5=>∃ys,H5 acc=some (.lst ys)/\ys.length<sizeLine/\Pv (i+1) σ3 (upd H5 acc (.lst (ys++[v]))) else Pv (i+1) σ3 H4)
  (hd:∀σ H,Pv xs.length σ H->R H) :
  ∃W:Nat->Nat->St->Hp->Prop,(∃m,W 0 m σ H)/\∀i m σ' H',W i m σ' H' ->
   ((Itt K a).stop i H'/\R H')\/((Itt K a).go i H'/\∃NX:St->Hp->Prop,(∀σ2 H2,NX σ2 H2->∃m',m'<m/\W (i+1) m' σ2 H2) /\
    ∀x H2,(Itt K a).yld i H' x H2->g x σ' H2 λσ3 H3=>ti σ3 H3 λok H4=>if ok=true then te σ3 H4 λv H5=>∃ys,H5 acc=some (.lst ys)/\ys.length<sizeLine/\NX σ3 (upd H5 acc (.lst (ys++[v]))) else NX σ3 H4):=by
 refine ⟨λi m σ H=>m=xs.length-i/\i<=xs.length/\Pv i σ H,⟨xs.length,by simp,aC _,h0⟩,?_⟩
 rintro i m σ H ⟨rfl,hi,p⟩
 have q:=hl i σ H hi p
 by_cases hlt:i<xs.length
 ·refine .inr ⟨⟨xs,xs[i],q,by simp [hlt]⟩,Pv (i+1),λσ' H' p'=>⟨xs.length-(i+1),∅,rfl,hlt,p'⟩,λx H' y=>?_⟩
  obtain ⟨e,y⟩:=y
  subst e
  exact hs i x σ _ (y xs q) p
 ·have e:i=xs.length:=∅
  subst e
  exact .inl ⟨⟨xs,q,aq _⟩,hd σ H p⟩
theorem xn {lo:Int}{n:Nat}{acc:Addr}{g:TG}{ti:TT}{te:TE}{R:Hp->Prop}{σ:St}{H:Hp}(Pv:Nat->St->Hp->Prop) (h0:Pv 0 σ H)
  (hs:∀i σ H,i<n->Pv i σ H->g (.int (lo+i)) σ H λσ3 H3=>ti σ3 H3 λok H4=>if ok=true then te σ3 H4 λv H5=>∃ys,H5 acc=some (.lst ys)/\ys.length<sizeLine/\Pv (i+1) σ3 (upd H5 acc (.lst (ys++[v]))) else Pv (i+1) σ3 H4)
  (hd:∀σ H,Pv n σ H->R H) :
  ∃W:Nat->Nat->St->Hp->Prop,(∃m,W 0 m σ H)/\∀i m σ' H',W i m σ' H' ->
   ((Itr lo n).stop i H'/\R H')\/((Itr lo n).go i H'/\∃NX:St->Hp->Prop,(∀σ2 H2,NX σ2 H2->∃m',m'<m/\W (i+1) m' σ2 H2) /\
    ∀x H2,(Itr lo n).yld i H' x H2->g x σ' H2 λσ3 H3=>ti σ3 H3 λok H4=>if ok=true then te σ3 H4 λv H5=>∃ys,H5 acc=some (.lst ys)/\ys.length<sizeLine/\NX σ3 (upd H5 acc (.lst (ys++[v]))) else NX σ3 H4):=by
 refine ⟨λi m σ H=>m=n-i/\i<=n/\Pv i σ H,⟨n,by simp,aC _,h0⟩,?_⟩
 rintro i m σ H ⟨rfl,hi,p⟩
 by_cases hlt:i<n
 ·refine .inr ⟨hlt,Pv (i+1),λσ' H' p'=>⟨n-(i+1),∅,rfl,hlt,p'⟩,λx H' y=>?_⟩
  obtain ⟨e,y⟩:=y
  subst e y
  exact hs i σ _ hlt p
 ·have e:i=n:=∅
  subst e
  exact .inl ⟨aq _,hd σ H p⟩
end L2
end
section
namespace L2
structure Cal (P:Program) (w:b9) (K:ah) (mg:Str->Option ag) (base:Heap) (k:Nat) (x:Str) (ps:List Str) (sp:Sp):Prop where
 ex:∃f fd,FnOk P w K mg base CX0 k f fd ps sp/\yE K fd ps []/\mg x=some (.ref f)/\bV K (.ref f)=true
theorem je {X:Cx}{k:Nat}{x:Str}{ps:List Str}{sp:Sp}{e:Expr}{es:List Expr}{t:TA}{p pos:Pos}(c:Cal X.prog X.w X.K X.mg X.base k x ps sp) (hr:Room k X.A) (hg:Gl X x) (ha:PA X (e::es) t)
  (hdb:(x == ("__debug__" : Str))=false:=by decide) (he:aO (e::es) X.env=(false,eval e X.env)::aO es X.env:=by rfl) (hpl:(cH pos (aO es X.env)).any (·.1)=false:=by rfl) :
  PE X (.Call (.Name x p) (e::es) [] pos) (Wc sp [] E0 t):=by
 obtain ⟨f,fd,F,hb,hm,hk⟩:=c.ex
 exact UL F hr hg hm hk hb .nil Wa ha hdb he hpl
theorem Cal.mk' {P:Program}{w:b9}{K:ah}{mg:Str->Option ag}{base:Heap}{k:Nat}{x:Str}{ps:List Str}{sp:Sp}{st:Stmt}{h:Heap}{f:Addr}{oc:ag}{od an:Option Addr}{osl:Array (Option ag)}{kV doc pm cdv ct:ag}
  (X:K.In h) (G:h.Ns mainGlobals mg) (a:aU K mainGlobals x=some (some (.ref f)))
  (l:K.lookup f=some ⟨oc,od,.func (bD x x (qg st) (jT st) (j8 st) .none kV doc pm an cdv ct),osl⟩) (c:cx K cdv x=true) (k':bV K (.ref f)=true)
  (hb:∀(kV doc pm:ag) (an:Option Addr) (cdv ct:ag) (us:List ag),us.length=ps.length->cw (bD x x (qg st) (jT st) (j8 st) .none kV doc pm an cdv ct) ⟨us,[]⟩=pure (ps.zip us))
  (ok:∀{f:Addr} {fd:FuncData},Fun K x x st f fd->FnOk P w K mg base CX0 k f fd ps sp):Cal P w K mg base k x ps sp:=by
 have F:=vU (st:=st) l c k'
 exact ⟨f,_,ok F,F.binds hb,bw X G a,k'⟩
section
variable {X:Cx}
theorem QH:xc X (.builtin "isinstance") (λxs H Q=>∃x n t b,xs=[x,.ty n]/\TyOf X.K H x t/\bx X.K t (.type n)=some b/\Q (.bl b) H):=by
 intro pins s σ H xs us Q I r h
 obtain ⟨x,n,t,b,rfl,ty,e,q⟩:=h
 obtain ⟨u,w',rfl,r1,r2⟩:=Zq r
 cases (show w'=i6 n from r2)
 exact YD I r1 ty e λtk=>⟨.bl b,H,I.tok tk,rfl,q⟩
noncomputable def W0 (i j:Int):Prop:=0<j/\j<2 ^ 200
theorem vX:OpR X (ig .FloorDiv) (rI W0 λi j=>.int (i / j)):=opI λi j _ _ _ _ _ hc q=>by
 have h1:(0:Int)<j:=hc.1
 have h2:j<2 ^ 200:=hc.2
 refine floordiv_int ∅ (by rw [Int.fdiv_eq_ediv_of_nonneg i ∅];exact q) (.inl (PyProof.noPylong_of_log2 ?_))
 have h3:j.natAbs<2 ^ 200:=∅
 have h4:j.natAbs≠0:=∅
 have:=(Nat.log2_lt h4).mpr h3
 omega
theorem V1 (hc:X.calm=true):xc X (.builtin "all") (λxs H Q=>∃(p:Addr) (bs:List Bool),xs=[.ref p]/\SqL X.K H p (bs.map V.bl)/\Q (.bl (bs.all λb=>b)) H):=by
 intro pins s σ H xs us Q I r h
 obtain ⟨p,bs,rfl,hq,q⟩:=h
 obtain ⟨u,rfl,ru⟩:=yV r
 cases ru
 obtain ⟨its,rv,pl,hz⟩:=I.list hq
 have hne:p≠s.heap.objs.size:=by
  obtain ⟨o,n,e,_⟩:=id pl
  exact aA (aw e)
 have hlen:its.length=bs.length:=by rw [<- rv.length,af]
 have itsAt:∀i v,its[i]? = some v->∃b,bs[i]? = some b/\v=lQ b:=λi v e=>by
  have hi:i<its.length:=(List.getElem?_eq_some_iff.mp e).1
  have hb:(bs.map V.bl)[i]? = some (V.bl (bs[i]'∅)):=by rw [av,aa ∅];rfl
  obtain ⟨u,h1,h2⟩:=rv.get hb
  rw [e] at h1
  cases h1
  exact ⟨bs[i]'∅,aa ∅,h2⟩
 refine call_all_walk (dw pl.isList ?_)
 refine ⟨s.heap.objs.size,_,_,_,_,_,λi=>bs.getD i true,rfl,Walks.list (show (X.A.in1).handled=none from I.ok.hd hc) s.heap.objs.size p hne its.toArray,⟨⟨_,az _ rfl,rfl,rfl⟩,pl.isList.at λo e=>ai _ e⟩,?_,?_⟩
 ·intro i v s' Q' E' hP hQ
  obtain ⟨b,hb,rfl⟩:=itsAt i v (by simpa using hP)
  have e:bs.getD i true=b:=by rw [ao,hb];rfl
  have hQ:Q' (bs.getD i true) s':=hQ
  rw [e] at hQ
  exact bO hQ
 ·intro h' tk hk
  have e:((aG its.toArray.size).all λi=>bs.getD i true)=bs.all λb=>b:=by
   rw [ar,hlen,dv,bI,bI]
   constructor
   ·intro z b hb
    obtain ⟨i,hi,rfl⟩:=List.mem_iff_getElem.mp hb
    have:=z i (List.mem_range.mpr hi)
    rw [ao,aa hi] at this
    exact this
   ·intro z i hi
    have hi':=List.mem_range.mp hi
    rw [ao,aa hi']
    exact z _ (bY hi')
  rw [e]
  refine ⟨.bl _,H,I.kept (t':=tk) λb o eo=>hk b o (by
   intro z
   have:=List.mem_singleton.mp z
   subst this
   exact absurd (aw eo) (cq _)) (ai _ eo),rfl,q⟩
end
noncomputable def kitT (a b:String):Option Bool:=if (i6 a == i6 b)=true then some true else if PySem.W.kitMeta b=true then (fastBuiltinMro a).map (·.contains (.type b)) else none
theorem qm (K:ah) (a b:String):bx K (.type a) (.type b)=kitT a b:=rfl
theorem wm (K:ah):bx K (.type "int") (.type "bool")=some false:=(qm K _ _).trans (by decide +kernel)
theorem ku (K:ah):bx K (.type "int") (.type "int")=some true:=(qm K _ _).trans (by decide +kernel)
theorem vY (K:ah):bx K (.type "bool") (.type "bool")=some true:=(qm K _ _).trans (by decide +kernel)
theorem JJ (K:ah):bx K (.type "list") (.type "bool")=some false:=(qm K _ _).trans (by decide +kernel)
theorem QP (K:ah):bx K (.type "list") (.type "int")=some false:=(qm K _ _).trans (by decide +kernel)
theorem Qy (K:ah):bx K (.type "list") (.type "str")=some false:=(qm K _ _).trans (by decide +kernel)
theorem ue (K:ah):bx K (.type "list") (.type "list")=some true:=(qm K _ _).trans (by decide +kernel)
theorem vA (K:ah):bx K (.type "list") (.type "tuple")=some false:=(qm K _ _).trans (by decide +kernel)
theorem gp (K:ah):bx K (.type "tuple") (.type "bool")=some false:=(qm K _ _).trans (by decide +kernel)
theorem JN (K:ah):bx K (.type "tuple") (.type "int")=some false:=(qm K _ _).trans (by decide +kernel)
theorem Jo (K:ah):bx K (.type "tuple") (.type "str")=some false:=(qm K _ _).trans (by decide +kernel)
theorem vB (K:ah):bx K (.type "tuple") (.type "list")=some false:=(qm K _ _).trans (by decide +kernel)
theorem vd (K:ah):bx K (.type "tuple") (.type "tuple")=some true:=(qm K _ _).trans (by decide +kernel)
noncomputable def Ext (b:Addr) (H H':Hp):Prop:=∀c o,H c=some o->c≠b->H' c=some o
theorem Ext.refl {b:Addr}{H:Hp}:Ext b H H:=λ_ _ h _=>h
theorem Ext.trans {b:Addr}{H H1 H2:Hp}(x:Ext b H H1) (y:Ext b H1 H2):Ext b H H2:=λc o h n=>y c o (x c o h n) n
theorem Ext.of_same {b:Addr}{H H':Hp}(x:jn H H'):Ext b H H':=λc o h _=>x c o h
theorem Ext.put {b:Addr}{H:Hp}{o:HO}:Ext b H (upd H b o):=λc _ h n=>by rw [j6 n];exact h
theorem jn.new {H:Hp}{p:Addr}{o:HO}(n:H p=none):jn H (upd H p o):=λc u h=>by rw [j6 (j1 h n)];exact h
theorem Ext.new {b:Addr}{H:Hp}{p:Addr}{o:HO}(n:H p=none):Ext b H (upd H p o):=Ext.of_same (jn.new n)
theorem Ext.free {b:Addr}{H H':Hp}(x:Ext b H H') {p:Addr}(h:H' p=none) (n:p≠b):H p=none:=by
 cases q:H p with
 | none=>rfl
 | some o=>rw [x p o q n] at h;cases h
end L2
end
section
namespace L2
section
variable {X:Cx}
theorem jd (K:ah) (h:X.K=K:=by rfl):IxR X (WH K):=by subst h;exact Uc
theorem qo (K:ah) (h:X.K=K:=by rfl):IxR X (Gq K):=by subst h;exact G5
theorem jh (K:ah) (h:X.K=K:=by rfl):xc X (.builtin "len") (λxs H Q=>∃p ys,xs=[.ref p]/\(SqL K H p ys\/SqT K H p ys)/\Q (.int ys.length) H):=by subst h;exact JP
theorem XA (K:ah) (h:X.K=K:=by rfl):OpR X (cf .In) (rIn K false):=by subst h;exact Yi
theorem xN (K:ah) (h:X.K=K:=by rfl):OpR X (cf .NotIn) (rIn K true):=by subst h;exact JB
theorem jX (K:ah) (h:X.K=K:=by rfl):xc X (.builtin "isinstance") (λxs H Q=>∃x n t b,xs=[x,.ty n]/\TyOf K H x t/\bx K t (.type n)=some b/\Q (.bl b) H):=by subst h;exact QH
theorem y9 (K:ah) (hc:X.calm=true) (h:X.K=K:=by rfl):xc X (.builtin "all") (λxs H Q=>∃(p:Addr) (bs:List Bool),xs=[.ref p]/\SqL K H p (bs.map V.bl)/\Q (.bl (bs.all λb=>b)) H):=by subst h;exact V1 hc
theorem jP {tg l:Expr}{tl:TE}(K:ah) (hl:PE X l tl) (h:X.K=K:=by rfl):PI X tg l (W9 K tl):=by subst h;exact UE hl
theorem uu {tg l:Expr}{tl:TE}(K:ah) (hl:PE X l tl) (h:X.K=K:=by rfl):PI X tg l (Gw K tl):=by subst h;exact WK hl
theorem qv {es:List Expr}{k:Nat}{t:TGs}{n:Nat}{pos:Pos}(K:ah) (hc:X.calm=true) (h:PGs X es t)
  (hn:(fm es X.env).length=n:=by rfl) (hst:(fm es X.env).findIdx? (·.1)=none:=by rfl) (hK:X.K=K:=by rfl):PG X (.Tuple es k pos) (E9 K n t):=by subst hK;exact Wn hc h hn hst
theorem xu {T id:String}{name:Str}{r:V->List V->Hp->VK->Prop}{o e:Expr}{es:List Expr}{to:TE}{t:TA}{apos cpos:Pos}(K:ah) (pa:nM T) (slot:Slot T name id) (hty:p0 (.builtin id)=pure (.type "method_descriptor")) (hm:MtR X id r) (ho:PE X o to) (ha:PA X (e::es) t)
  (hbase:dB o name X.env (eval o X.env)=eval o X.env:=by rfl)
  (hfew:((cH cpos (aO (e::es) X.env)).all (λx=>!x.1) && (iO cpos (eP [] X.env)).all (λx=>x.1.isSome)
   && decide ((e::es).length+([]:List lU).length+(if ([]:List lU).isEmpty then 0 else 1)<30))=true:=by rfl)
  (hline:(apos.endLine == cpos.line)=true:=by rfl) (hs:aO (e::es) X.env=(false,eval e X.env)::aO es X.env:=by rfl) (hplain:(cH cpos (aO es X.env)).any (·.1)=false:=by rfl) (hK:X.K=K:=by rfl) :
  PE X (.Call (.Attribute o name apos) (e::es) [] cpos) (tBM K T r to t):=by subst hK;exact GM pa slot hty hm ho ha hbase hfew hline hs hplain
end
noncomputable def New (H:Hp) (o:HO) (Q:VK):Prop:=∀p H',H p=none->H' p=some o->jn H H'->Q (.ref p) H'
theorem New.at {H:Hp}{o:HO}{Q:VK}(h:New H o Q):∀p,H p=none->Q (.ref p) (upd H p o):=λp n=>h p _ n j5 (jn.new n)
section
variable {X:Cx}{es:List Expr}{t:TA}{pos:Pos}
noncomputable def Ef (t:TA):TE:=λσ H Q=>t σ H λxs H1=>xs.length<=sizeLine/\New H1 (.tup xs) Q
noncomputable def GH (t:TA):TE:=λσ H Q=>t σ H λxs H1=>xs.length<=sizeLine/\New H1 (.lst xs) Q
theorem jS {x1}(h:PA X es t):PE X (.Tuple es x1 pos) (Ef t):=by
 intro pins s σ H Q I hq
 refine wpAny_Tuple_spliced (thn (h pos pins s σ H _ I hq) λus s1 ⟨xs,H1,I1,r,z,q⟩=>⟨by rw [<- r.length];exact z,?_⟩)
 have hf:H1 s1.heap.objs.size=none:=I1.hok.fresh (aq _)
 refine ⟨.ref s1.heap.objs.size,upd H1 s1.heap.objs.size (.tup xs),I1.laid (t':=s1.toks) (λb u e=>ai _ e) (aq _) ?_,rfl,q.at _ hf⟩
 exact ⟨z,us,r,⟨_,az _ rfl,rfl,_,rfl⟩⟩
theorem jL (h:PA X es t):PE X (.List es pos) (GH t):=by
 intro pins s σ H Q I hq
 refine wpAny_List_spliced (thn (h pos pins s σ H _ I hq) λus s1 ⟨xs,H1,I1,r,z,q⟩=>⟨by rw [<- r.length];exact z,?_⟩)
 have hf:H1 s1.heap.objs.size=none:=I1.hok.fresh (aq _)
 refine ⟨.ref s1.heap.objs.size,upd H1 s1.heap.objs.size (.lst xs),I1.laid (t':=s1.toks) (λb u e=>ai _ e) (aq _) ?_,rfl,q.at _ hf⟩
 exact ⟨z,us,0,r,az _ rfl⟩
theorem OpR.weak {f:ag->ag->Sem ag}{r r':R2}(h:OpR X f r) (w:∀x y H Q,r' x y H Q->r x y H Q):OpR X f r':=λpins s σ H x y v u Q I rx ry q=>h pins s σ H x y v u Q I rx ry (w _ _ _ _ q)
theorem xc.weak {f:ag}{r r':List V->Hp->VK->Prop}(h:xc X f r) (w:∀x H Q,r' x H Q->r x H Q):xc X f r':=λpins s σ H xs us Q I rx q=>h pins s σ H xs us Q I rx (w _ _ _ q)
theorem SlR.weak {r r':V->Option Int->Option Int->Hp->VK->Prop}(h:SlR X r) (w:∀x lo hi H Q,r' x lo hi H Q->r x lo hi H Q):SlR X r':=λpins s σ H x v vl vu lo hi sl Q I rx hs pl pu q=>h pins s σ H x v vl vu lo hi sl Q I rx hs pl pu (w _ _ _ _ _ q)
noncomputable def GV:R2:=λx y H Q=>∃l b xs zs,x = .ref l/\y = .ref b/\H l=some (.lst xs)/\H b=some (.lst zs)/\xs.length+zs.length<=sizeLine/\New H (.lst (xs++zs)) Q
theorem Uh:OpR X (ig .Add) GV:=WE.weak λ_ _ _ _ ⟨l,b,xs,zs,h1,h2,h3,h4,h5,q⟩=>⟨l,b,xs,zs,h1,h2,h3,h4,h5,q.at⟩
theorem qJ (K:ah) (h:X.K=K:=by rfl):xc X (.type "list") (λxs H Q=>∃p ys,xs=[.ref p]/\(SqL K H p ys\/SqT K H p ys)/\New H (.lst ys) Q):=by
 subst h
 exact JG.weak λ_ _ _ ⟨p,ys,h1,h2,q⟩=>⟨p,ys,h1,h2,q.at⟩
theorem J9 (K:ah) (h:X.K=K:=by rfl):SlR X (λx lo hi H Q=>∃a xs,x = .ref a/\SqL K H a xs/\New H (.lst (Ju xs lo hi)) Q):=by
 subst h
 exact U9.weak λ_ _ _ _ _ ⟨a,xs,h1,h2,q⟩=>⟨a,xs,h1,h2,q.at⟩
end
theorem qC {p A B:Prop} [Decidable p] (h1:p->A) (h2:¬p->B):if decide p=true then A else B:=by
 by_cases h:p
 ·rw [if_pos (decide_eq_true h)];exact h1 h
 ·rw [if_neg (by rw [decide_eq_false h];exact au)];exact h2 h
theorem y3 {p A B:Prop} [Decidable p] (h1:¬p->A) (h2:p->B):if (!decide p)=true then A else B:=by
 by_cases h:p
 ·rw [if_neg (by rw [decide_eq_true h];exact au)];exact h2 h
 ·rw [if_pos (by rw [decide_eq_false h];rfl)];exact h1 h
theorem qS {α:Type}{xs:List α}{i:Int}{v:α}(h0:0<=i) (h:xs[i.toNat]? = some v):atI xs i=some v:=by
 obtain ⟨n,rfl⟩:=Int.eq_ofNat_of_zero_le h0
 exact zK (by simpa using h)
theorem uN {ns:List Int}{i:Int}(h0:0<=i) (h:i<ns.length):∃z,atI (ns.map V.int) i=some (.int z):=by
 refine ⟨ns[i.toNat]'∅,qS h0 ?_⟩
 rw [av,aa ∅]
 rfl
theorem yM {ns:List Int}{i:Nat}{y:V}(h:(ns.map V.int)[i]? = some y):∃z,y=V.int z:=by
 rw [av] at h
 cases e:ns[i]? with
 | none=>rw [e] at h;cases h
 | some z=>rw [e] at h;exact ⟨z,(aR h).symm⟩
noncomputable def ZJ:Sp:=λvs H Q _=>∃a b:Int,vs=[.int a,.int b]/\∀r:Int,Q (.int r) H
noncomputable def Zu:Sp:=λvs H Q _=>∃i:Int,vs=[.int i]/\Q (.bl true) H
structure Nb (mg:Str->Option ag):Prop where
 b_len:mg "len" = none
 b_range:mg "range" = none
 b_isinstance:mg "isinstance" = none
 b_int:mg "int" = none
 b_bool:mg "bool" = none
 b_str:mg "str" = none
 b_list:mg "list" = none
 b_tuple:mg "tuple" = none
 b_min:mg "min" = none
 b_max:mg "max" = none
 b_all:mg "all" = none
 b_zip:mg "zip" = none
end L2
end
section
namespace L2
noncomputable def Vc (M:Addr->Prop) (H H':Hp):Prop:=∀c o,H c=some o->¬M c->H' c=some o
theorem Vc.of_same {M:Addr->Prop}{H H':Hp}(x:jn H H'):Vc M H H':=λc o h _=>x c o h
section
variable {X:Cx}
end
end L2
end
section
namespace L2
noncomputable def tCut (t u:TS):TS:=λD σ H=>∃P:St->Hp->Prop,t { D with nx:=P } σ H/\∀σ' H',P σ' H'->u D σ' H'
theorem JL {X:Cx}{st:Stmt}{zA:List Stmt}{t u:TS}(h1:PS X st t) (h2:PSs X zA u):PSs X (st::zA) (tCut t u):=by
 intro pins s σ H D I h
 obtain ⟨P,h,hP⟩:=h
 refine lI (thn (h1 pins s σ H { D with nx:=P } I h) λf s1 q=>?_)
 cases f with
 | next =>
  obtain ⟨σ',H',I',q⟩:=q
  exact h2 pins s1 σ' H' D I' (hP _ _ q)
 | ret v=>exact q
 | brk=>exact q
 | cont=>exact q
section
variable {X:Cx}
end
noncomputable def qj (L:Addr) (H:Hp) (b:Addr):Prop:=∃(ns:List Int) (a r c d:Int),H b=some (.lst [.ref L,.int a,.int r,.int c,.int d])/\L≠b/\H L=some (.lst (ns.map V.int))/\0<=a
theorem qj.same {L:Addr}{H H':Hp}{b:Addr}(B:qj L H b) (s:jn H H'):qj L H' b:=by
 obtain ⟨ns,a,r,c,d,h1,h2,h3,h4⟩:=B
 exact ⟨ns,a,r,c,d,s _ _ h1,h2,s _ _ h3,h4⟩
theorem qj.ext {L:Addr}{H H':Hp}{b acc:Addr}(B:qj L H b) (n:acc≠b) (m:acc≠L) (e:Ext acc H H'):qj L H' b:=by
 obtain ⟨ns,a,r,c,d,h1,h2,h3,h4⟩:=B
 exact ⟨ns,a,r,c,d,e _ _ h1 n.symm,h2,e _ _ h3 m.symm,h4⟩
theorem qj.put {L:Addr}{H:Hp}{b acc:Addr}{o:HO}(B:qj L H b) (n:acc≠b) (m:acc≠L):qj L (upd H acc o) b:=B.ext n m Ext.put
theorem qj.ne {L:Addr}{H:Hp}{b p:Addr}(B:qj L H b) (n:H p=none):p≠b:=by
 obtain ⟨ns,a,r,c,d,h1,h2,h3,h4⟩:=B
 exact (j1 h1 n).symm
theorem qj.neL {L:Addr}{H:Hp}{b p:Addr}(B:qj L H b) (n:H p=none):p≠L:=by
 obtain ⟨ns,a,r,c,d,h1,h2,h3,h4⟩:=B
 exact (j1 h3 n).symm
theorem qj.ne_tup {L:Addr}{H:Hp}{b p:Addr}{xs:List V}(B:qj L H b) (n:H p=some (.tup xs)):p≠b:=by
 obtain ⟨ns,a,r,c,d,h1,h2,h3,h4⟩:=B
 exact ji n h1 (by intro z;cases z)
noncomputable def xP:Sp:=λvs H Q _=>∃(L b:Addr) (n:Int),vs=[.ref b,.int n]/\qj L H b/\(0<n/\n<2 ^ 200)/\∀(v:Int) (H':Hp),0<=v->v<n->qj L H' b->Ext b H H'->Q (.int v) H'
noncomputable def VD (K:ah):Sp:=λvs H Q _=>∃(a:Addr) (ns:List Int),vs=[.ref a]/\SqL K H a (ns.map V.int)/\∀(L b:Addr) (H':Hp),H b=none->qj L H' b->jn H H'->Q (.ref b) H'
noncomputable abbrev T3:=Int×Int×Int
noncomputable abbrev yo (t:T3):HO:=.tup [.int t.1,.int t.2.1,.int t.2.2]
noncomputable def Ws (H:Hp) (v:V) (t:T3):Prop:=∃p,v = .ref p/\H p=some (yo t)
noncomputable def jD (H:Hp) (vs:List V) (ts:List T3):Prop:=cG (Ws H) vs ts
theorem jD.length {H:Hp}{vs:List V}{ts:List T3}(r:jD H vs ts):vs.length=ts.length:=aK r
theorem jD.get {H:Hp}:∀{vs:List V}{ts:List T3}{i:Nat}{v:V},jD H vs ts->vs[i]? = some v->∃t,ts[i]? = some t/\Ws H v t
 | _,_,_,_,.nil,e=>by simp at e
 | _,_,0,_,.cons r _,e=>by simp at e;subst e;exact ⟨_,rfl,r⟩
 | _,_,i+1,v,.cons _ t,e=>by
  obtain ⟨d,h1,h2⟩:=jD.get (i:=i) (v:=v) t (by simpa using e)
  exact ⟨d,by simpa using h1,h2⟩
theorem jD.imp {H H':Hp}{vs:List V}{ts:List T3}(r:jD H vs ts) (h:∀p t,H p=some (yo t)->H' p=some (yo t)):jD H' vs ts :=
 Paired.mapP r λ_ t ⟨p,e,q⟩=>⟨p,e,h p t q⟩
theorem jD.snoc {H:Hp}{vs:List V}{ts:List T3}{v:V}{t:T3}(r:jD H vs ts) (h:Ws H v t):jD H (vs++[v]) (ts++[t]):=bL r h
theorem qH {α β:Type}(f:α->β) (l:List α) (i:Nat) (v:α) (h:l[i]? = some v):(l.take (i+1)).map f=(l.take i).map f++[f v]:=by
 rw [bF,h,aB]
 rfl
end L2
end
section
namespace L2
open PySem PySem.W PyProof.Rows
noncomputable def xa {α:Type}(lt:Nat->Nat->Bool) (n:Nat):KasT α->(α->Prop)->Prop
 | .ret a,G=>G a
 | .ask i j k,G=>i<n/\j<n/\xa lt n (k (lt i j)) G
theorem xa.bind {α β:Type}{lt:Nat->Nat->Bool}{n:Nat}{f:α->KasT β}{G:β->Prop}:∀{t:KasT α},xa lt n t (λa=>xa lt n (f a) G)->xa lt n (t.bind f) G
 | .ret _,h=>h
 | .ask _ _ k,h=>⟨h.1,h.2.1,xa.bind (t:=k _) h.2.2⟩
theorem xa.wp {α:Type}{lt:Nat->Nat->Bool}{n:Nat}{cmp:Nat->Nat->(Bool->Shared->Prop)->Shared->Prop}{I:Shared->Prop}(hc:∀i j C s,i<n->j<n->I s->(∀s',I s'->C (lt i j) s')->cmp i j C s)
  {G:α->Prop} {Q:α->Shared->Prop} (hq:∀a s,G a->I s->Q a s):∀{t:KasT α} {s:Shared},xa lt n t G->I s->t.kasWp cmp Q s
 | .ret a,s,h,hs=>hq a s h hs
 | .ask i j k,s,h,hs=>hc i j _ s h.1 h.2.1 hs λs' hs'=>xa.wp hc hq (t:=k _) h.2.2 hs'
section
variable {O:KeyOrd}{key:Nat->O.α}{n:Nat}{p:Array Nat}
noncomputable abbrev ltK (O:KeyOrd) (key:Nat->O.α):Nat->Nat->Bool:=λi j=>O.blt (key i) (key j)
noncomputable abbrev kp (key:Nat->O.α) (p:Array Nat) (i:Nat):O.α:=key (p.getD i 0)
noncomputable def zn (key:Nat->O.α) (p:Array Nat) (k:Nat):Prop:=∀i j,i<=j->j<k->O.kle (kp key p i) (kp key p j)
noncomputable def kh (key:Nat->O.α) (p:Array Nat) (k:Nat):Prop:=∀i j,i<=j->j<k->O.kle (kp key p j) (kp key p i)
noncomputable def qu (n:Nat) (p:Array Nat):Prop:=p.Perm (aG n).toArray
theorem qu.size (h:qu n p):p.size=n:=by have:=h.size_eq;simpa using this
theorem qu.lt (h:qu n p) (hn:0<n) (i:Nat):p.getD i 0<n:=by
 by_cases hi:i<p.size
 ·have e:p.getD i 0=p[i]:=by simp [nQ,hi]
  rw [e]
  have hm:p[i]∈(aG n).toArray.toList:=(Array.perm_iff_toList_perm.mp h).mem_iff.mp (by simp)
  simpa using hm
 ·have e:p.getD i 0=0:=by simp [nQ,hi]
  rw [e];exact hn
theorem zp {p q:Array Nat}{i j:Nat}(h:p[i]? = q[j]?):p.getD i 0=q.getD j 0:=by
 rw [iH,iH,h]
theorem gX {src d:Nat}(hs:src<p.size) (hd:d<=src) (k:Nat) :
  kp (O:=O) key (bubble p src d) k=if k=src-d then kp key p src else if src-d<k/\k<=src then kp key p (k-1) else kp key p k:=by
 have e:=getElem?_bubble hs d hd k
 unfold kp
 by_cases h1:k=src-d
 ·rw [if_pos h1] at e ⊢;rw [zp e]
 ·rw [if_neg h1] at e ⊢
  by_cases h2:src-d<k/\k<=src
  ·rw [if_pos h2] at e ⊢;rw [zp e]
  ·rw [if_neg h2] at e ⊢;rw [zp e]
theorem Xo {i j:Nat}(hj:j<=p.size) (k:Nat):kp (O:=O) key (pW p i j) k=if i<=k/\k<j then kp key p (i+j-1-k) else kp key p k:=by
 have e:=getElem?_mirror_all (i:=i) hj k
 unfold kp pW
 by_cases h1:i<=k/\k<j
 ·rw [if_pos h1] at e ⊢;rw [zp e]
 ·rw [if_neg h1] at e ⊢;rw [zp e]
theorem xA {i j:Nat}(hj:j<=p.size) (heq:∀k,i<=k->k<j->kp (O:=O) key p k=kp key p (j-1)) (k:Nat):kp (O:=O) key (pW p i j) k=kp key p k:=by
 rw [Xo hj]
 split
 ·rw [heq _ ∅ ∅,heq k ∅ ∅]
 ·rfl
theorem qu.rev (h:qu n p) (i j:Nat):qu n (pW p i j):=(mirror_perm _ _ _ _).trans h
theorem qu.bub (h:qu n p) (i j:Nat):qu n (bubble p i j):=(bubble_perm _ _ _).trans h
theorem Jx (hP:qu n p) (hn:0<n) {G:Nat->Prop}:∀(f a:Nat),1<=a->zn (O:=O) key p a ->
  (∀m,a<=m->m<=a+f->zn (O:=O) key p m->(m=a+f\/O.klt (kp key p m) (kp key p (m-1)))->G m)->xa (ltK O key) n (kas_asc p f a) G
 | 0,a,_,hs,h=>h a (aq _) (aq _) hs (.inl rfl)
 | f+1,a,h1,hs,h=>by
  refine ⟨hP.lt hn _,hP.lt hn _,?_⟩
  show xa _ _ (if O.blt (kp key p a) (kp key p (a-1))=true then _ else _) _
  cases hless:O.blt (kp key p a) (kp key p (a-1)) with
  | true=>rw [if_pos rfl];exact h a (aq _) ∅ hs (.inr hless)
  | false =>
   rw [if_neg au]
   refine Jx hP hn f (a+1) ∅ (λi j hij hj=>?_) λm hm1 hm2 hsm ho=>h m ∅ ∅ hsm (ho.imp (λz=>∅) id)
   by_cases hja:j<a
   ·exact hs i j hij hja
   ·have hj':j=a:=∅
    subst hj'
    by_cases hi':i=j
    ·subst hi';exact cU _
    ·exact i8 (hs i (j-1) ∅ ∅) hless
theorem gL (hP:qu n p) {m nrem:Nat}{G:Nat×Array Nat->Prop}(h1:1<=m) (hm:m<=nrem) (hn:nrem<=n) (hs:kh (O:=O) key p m)
  (h:∀k p',qu n p'->1<=k->k<=nrem->zn (O:=O) key p' k->G (k,p')):xa (ltK O key) n (sF m nrem p) G:=by
 have hsz:m<=p.size:=by rw [hP.size];omega
 refine xa.bind (Jx (hP.rev _ _) ∅ _ m h1 (λi j hij hj=>?_) λk hk1 hk2 hk3 _=>h k _ (hP.rev _ _) ∅ ∅ hk3)
 rw [Xo hsz,Xo hsz,if_pos ∅,if_pos ∅]
 exact hs _ _ ∅ ∅
theorem ub {nrem:Nat}(hn:nrem<=n) {G:Array Nat×Nat×Nat->Prop}:∀(f:Nat) (p:Array Nat) (x q:Nat),qu n p->1<=x->x+f=nrem->kh (O:=O) key p x->q+1<=x ->
  (∀i,x-(q+1)<=i->i<x->kp (O:=O) key p i=kp key p (x-1)) ->
  (∀p' m q',qu n p'->x<=m->m<=nrem->kh (O:=O) key p' m->q'+1<=m->(∀i,m-(q'+1)<=i->i<m->kp (O:=O) key p' i=kp key p' (m-1))->G (p',m,q')) ->
  xa (ltK O key) n (kas_desc f p x q) G
 | 0,p,x,q,hP,h1,hx,hs,hq,he,h=>h p x q hP (aq _) ∅ hs hq he
 | f+1,p,x,q,hP,h1,hx,hs,hq,he,h=>by
  have hsz:x<=p.size:=by rw [hP.size];omega
  refine ⟨hP.lt ∅ _,hP.lt ∅ _,?_⟩
  show xa _ _ (if O.blt (kp key p x) (kp key p (x-1))=true then _ else _) _
  cases hless:O.blt (kp key p x) (kp key p (x-1)) with
  | true =>
   rw [if_pos rfl]
   have step1:∀p':Array Nat,(∀k,kp (O:=O) key p' k=kp key p k)->kh (O:=O) key p' (x+1):=by
    intro p' hk i j hij hj
    rw [hk,hk]
    by_cases hjx:j<x
    ·exact hs i j hij hjx
    ·have hj':j=x:=∅
     subst hj'
     by_cases hi':i=j
     ·subst hi';exact cU _
     ·exact i8 (fN hless) (hs i (j-1) ∅ ∅)
   by_cases hneq:q > 0
   ·rw [if_pos hneq]
    exact ub hn f _ (x+1) 0 (hP.rev _ _) ∅ ∅ (step1 _ (xA hsz he)) ∅ (λi h1 h2=>by congr 1;omega) λp' m q' a b=>h p' m q' a ∅
   ·rw [if_neg hneq]
    exact ub hn f _ (x+1) 0 hP ∅ ∅ (step1 _ λ_=>rfl) ∅ (λi h1 h2=>by congr 1;omega) λp' m q' a b=>h p' m q' a ∅
  | false =>
   rw [if_neg au]
   refine ⟨hP.lt ∅ _,hP.lt ∅ _,?_⟩
   show xa _ _ (if O.blt (kp key p (x-1)) (kp key p x)=true then _ else _) _
   cases hlarger:O.blt (kp key p (x-1)) (kp key p x) with
   | true=>rw [if_pos rfl];exact h p x q hP (aq _) ∅ hs hq he
   | false =>
    rw [if_neg au]
    have heqx:kp (O:=O) key p x=kp key p (x-1):=iF hlarger hless
    refine ub hn f p (x+1) (q+1) hP ∅ ∅ (λi j hij hj=>?_) ∅ (λi h1 h2=>?_) λp' m q' a b=>h p' m q' a ∅
    ·by_cases hjx:j<x
     ·exact hs i j hij hjx
     ·have hj':j=x:=∅
      subst hj'
      by_cases hi':i=j
      ·subst hi';exact cU _
      ·rw [heqx];exact hs i (j-1) ∅ ∅
    ·rw [show x+1-1=x by omega]
     by_cases hix:i=x
     ·subst hix;rfl
     ·rw [heqx];exact he i ∅ ∅
theorem uf (hP:qu n p) {m nrem:Nat}{G:Nat×Array Nat->Prop}(hm:m+1<=nrem) (hn:nrem<=n) (hs:kh (O:=O) key p (m+1))
  (h:∀k p',qu n p'->1<=k->k<=nrem->zn (O:=O) key p' k->G (k,p')):xa (ltK O key) n (kas_descPart m nrem p) G:=by
 refine xa.bind (ub hn _ p (m+1) 0 hP ∅ ∅ hs ∅ (λi h1 h2=>by congr 1;omega) λp' k q hP' hk1 hk2 hs' hq he=>?_)
 have hsz:k<=p'.size:=by rw [hP'.size];omega
 show xa _ _ (if q > 0 then sF k nrem (pW p' (k-(q+1)) k) else sF k nrem p') _
 by_cases hneq:q > 0
 ·rw [if_pos hneq]
  refine gL (hP'.rev _ _) ∅ hk2 hn (λi j hij hj=>?_) h
  rw [xA hsz he,xA hsz he]
  exact hs' i j hij hj
 ·rw [if_neg hneq]
  exact gL hP' ∅ hk2 hn hs' h
theorem ZZ (hP:qu n p) (hn:0<n) {G:Nat×Array Nat->Prop}(h:∀k p',qu n p'->1<=k->k<=n->zn (O:=O) key p' k->G (k,p')):xa (ltK O key) n (kas_count n p) G:=by
 refine xa.bind (Jx hP hn _ 1 (aq 1) (λi j hij hj=>by have:i=j:=∅;subst this;exact cU _) λm hm1 hm2 hsm hor=>?_)
 by_cases hnn:m=n
 ·rw [if_pos (by simpa using hnn)]
  exact h m p hP hm1 ∅ hsm
 ·rw [if_neg (by simpa using hnn)]
  have hlt:O.klt (kp key p m) (kp key p (m-1)):=by
   rcases hor with z | z
   ·omega
   ·exact z
  by_cases hgt:m > 1
  ·rw [if_pos hgt]
   refine ⟨hP.lt hn _,hP.lt hn _,?_⟩
   show xa _ _ (if O.blt (kp key p 0) (kp key p (m-1))=true then _ else _) _
   cases hrose:O.blt (kp key p 0) (kp key p (m-1)) with
   | true=>rw [if_pos rfl];exact h m p hP hm1 ∅ hsm
   | false =>
    rw [if_neg au]
    have hsz:m<=p.size:=by rw [hP.size];omega
    have hall:∀k,0<=k->k<m->kp (O:=O) key p k=kp key p (m-1):=by
     intro k _ hk
     have a1:=hsm 0 k ∅ hk
     have a2:=hsm k (m-1) ∅ ∅
     exact iF a2 (i8 hrose a1)
    refine uf (hP.rev _ _) ∅ (aq _) (λi j hij hj=>?_) h
    rw [xA hsz hall,xA hsz hall]
    by_cases hjn:j<m
    ·rw [hall i ∅ ∅,hall j ∅ hjn];exact cU _
    ·have hj':j=m:=∅
     subst hj'
     by_cases hi':i=j
     ·subst hi';exact cU _
     ·rw [hall i ∅ ∅];exact fN hlt
  ·rw [if_neg hgt]
   have hm1':m=1:=∅
   subst hm1'
   refine uf hP ∅ (aq _) (λi j hij hj=>?_) h
   by_cases hi':i=j
   ·subst hi';exact cU _
   ·have hi0:i=0:=∅
    have hj1:j=1:=∅
    subst hi0;subst hj1
    exact fN hlt
theorem uT (hP:qu n p) (hn:0<n) {k:Nat}(hs:zn (O:=O) key p k) {G:Nat->Prop}:∀(f l r:Nat),l<=r->r<=k->r-l<=f ->
  (∀i,i<l->O.kle (kp key p i) (kp key p k))->(∀i,r<=i->i<k->O.klt (kp key p k) (kp key p i)) ->
  (∀l,l<=k->(∀i,i<l->O.kle (kp key p i) (kp key p k))->(∀i,l<=i->i<k->O.klt (kp key p k) (kp key p i))->G l)->xa (ltK O key) n (kas_place p k f l r) G
 | 0,l,r,hlr,hrk,hm,hlo,hhi,h=>by
  have:l=r:=∅
  subst this
  exact h l hrk hlo hhi
 | f+1,l,r,hlr,hrk,hm,hlo,hhi,h=>by
  unfold kas_place
  by_cases hge:l>=r
  ·rw [if_pos hge]
   have:l=r:=∅
   subst this
   exact h l hrk hlo hhi
  ·rw [if_neg hge]
   refine ⟨hP.lt hn _,hP.lt hn _,?_⟩
   show xa _ _ (if O.blt (kp key p k) (kp key p ((l+r) / 2))=true then _ else _) _
   cases hless:O.blt (kp key p k) (kp key p ((l+r) / 2)) with
   | true =>
    rw [if_pos rfl]
    exact uT hP hn hs f l _ ∅ ∅ ∅ hlo (λi h1 h2=>KeyOrd.klt_of_klt_of_kle hless (hs _ _ h1 h2)) h
   | false =>
    rw [if_neg au]
    exact uT hP hn hs f _ r ∅ ∅ ∅ (λi h1=>i8 (hs i ((l+r) / 2) ∅ ∅) (show O.kle _ _ from hless)) hhi h
theorem ZN (hn:0<n) {G:Array Nat->Prop}:∀(f:Nat) (p:Array Nat) (k:Nat),qu n p->k+f=n->zn (O:=O) key p k ->
  (∀p',qu n p'->zn (O:=O) key p' n->G p')->xa (ltK O key) n (kas_bin f p k) G
 | 0,p,k,hP,hk,hs,h=>h p hP (by rw [<- hk];exact hs)
 | f+1,p,k,hP,hk,hs,h=>by
  refine xa.bind (uT hP hn hs k 0 k (aC _) (aq _) ∅ (λi hi=>∅) (λi h1 h2=>∅) λl hlk hlo hhi=>?_)
  refine ZN hn f _ (k+1) (hP.bub _ _) ∅ (λi j hij hj=>?_) h
  have hks:k<p.size:=by rw [hP.size];omega
  rw [gX hks ∅,gX hks ∅,show k-(k-l)=l by omega]
  repeat' split
  all_goals first
   | (exfalso;omega)
   | exact cU _
   | exact hlo _ ∅
   | exact fN (hhi _ ∅ ∅)
   | exact hs _ _ ∅ ∅
theorem kg (hn:0<n) {G:Array Nat->Prop}(h:∀p',qu n p'->zn (O:=O) key p' n->G p'):xa (ltK O key) n (sV n) G:=by
 refine xa.bind (ZZ (Array.Perm.refl _) hn λk p' hP h1 hk hs=>?_)
 show xa _ _ (if k<n then kas_bin (n-max k 1) p' (max k 1) else .ret p') _
 by_cases hkn:k<n
 ·rw [if_pos hkn,show max k 1=k by omega]
  exact ZN hn _ p' k hP ∅ hs h
 ·rw [if_neg hkn]
  have e:k=n:=∅
  subst e
  exact h p' hP hs
end
noncomputable def zo:List Int->List Int->Bool
 | [],[]=>false
 | [],_::_=>true
 | _::_,[]=>false
 | a::x,b::y=>if a=b then zo x y else decide (a<b)
theorem wd:∀a,zo a a=false
 | []=>rfl
 | a::x=>by unfold zo;rw [if_pos rfl];exact wd x
theorem kM:∀a b c,zo a b=true->zo b c=true->zo a c=true
 | [],[],_,h,_=>by cases h
 | [],_::_,[],_,h=>by cases h
 | [],_::_,_::_,_,_=>rfl
 | _::_,[],_,h,_=>by cases h
 | _::_,_::_,[],_,h=>by cases h
 | a::x,b::y,c::z,h1,h2=>by
  unfold zo at h1 h2 ⊢
  by_cases e1:a=b
  ·subst e1
   rw [if_pos rfl] at h1
   by_cases e2:a=c
   ·rw [if_pos e2] at h2 ⊢;exact kM x y z h1 h2
   ·rw [if_neg e2] at h2 ⊢;exact h2
  ·rw [if_neg e1] at h1
   have h1':=of_decide_eq_true h1
   by_cases e2:b=c
   ·subst e2;rw [if_neg e1];exact h1
   ·rw [if_neg e2] at h2
    have h2':=of_decide_eq_true h2
    rw [if_neg ∅]
    exact decide_eq_true ∅
theorem Xd:∀a b c,zo a c=true->zo a b=true\/zo b c=true
 | [],[],[],h=>by cases h
 | [],[],_::_,_=>.inr rfl
 | [],_::_,_,_=>.inl rfl
 | _::_,_,[],h=>by cases h
 | _::_,[],_::_,_=>.inr rfl
 | a::x,b::y,c::z,h=>by
  unfold zo at h ⊢
  by_cases e1:a=b
  ·subst e1
   rw [if_pos rfl]
   by_cases e2:a=c
   ·rw [if_pos e2] at h ⊢;exact Xd x y z h
   ·rw [if_neg e2] at h ⊢;exact .inr h
  ·rw [if_neg e1]
   by_cases e2:b=c
   ·subst e2;rw [if_neg e1] at h;exact .inl h
   ·rw [if_neg e2]
    by_cases e3:a=c
    ·subst e3
     by_cases hab:a<b
     ·exact .inl (decide_eq_true hab)
     ·exact .inr (decide_eq_true ∅)
    ·rw [if_neg e3] at h
     have h':=of_decide_eq_true h
     by_cases hab:a<b
     ·exact .inl (decide_eq_true hab)
     ·exact .inr (decide_eq_true ∅)
theorem hZ:∀a b,zo a b=false->zo b a=false->a=b
 | [],[],_,_=>rfl
 | [],_::_,h,_=>by cases h
 | _::_,[],_,h=>by cases h
 | a::x,b::y,h1,h2=>by
  unfold zo at h1 h2
  by_cases e:a=b
  ·subst e
   rw [if_pos rfl] at h1 h2
   rw [hZ x y h1 h2]
  ·rw [if_neg e] at h1
   rw [if_neg (λz=>e z.symm)] at h2
   have:=of_decide_eq_false h1
   have:=of_decide_eq_false h2
   omega
noncomputable def ww:KeyOrd:=⟨List Int,zo,wd,kM,Xd,hZ⟩
noncomputable def Uk:KeyOrd:=⟨Int,λa b=>decide (a<b),λa=>by simp,λa b c h1 h2=>by
  have:=of_decide_eq_true h1;have:=of_decide_eq_true h2;exact decide_eq_true ∅,λa b c h=>by
  have:=of_decide_eq_true h
  by_cases hab:a<b
  ·exact .inl (decide_eq_true hab)
  ·exact .inr (decide_eq_true ∅),λa b h1 h2=>by
  have:=of_decide_eq_false h1;have:=of_decide_eq_false h2;omega⟩
end L2
end
section
namespace L2
open PySem.W
open PySem.AutoSeq1 (wpAny_loadPart')
open PySem.MeetsSeq PySem.MeetsSeq2 PySem.MeetsSeq3 PySem.SeqRoads2
theorem JS {its:List ag}{xs:List Int}(h:cX its xs) {i:Nat}(hi:i<its.length):∃t,its[i]? = some (.int (xs[i]'(by have:=h.length;omega)) t):=by
 have hx:i<xs.length:=by have:=h.length;omega
 obtain ⟨u,e1,t,e2⟩:=jC.get (uY h) (i:=i) (x:=V.int xs[i]) (by rw [av,aa hx];rfl)
 exact ⟨t,by rw [e1,e2]⟩
theorem Yy (l b:Addr) (items items2:List ag) (n n2:Nat) (dd dd2:Option Addr) (sl sl2:Array (Option ag)) {xs ys:List Int}(hx:cX items xs) (hy:cX items2 ys) (k:Nat) :
  ∀i:Nat,items.length-i=k->i<=items.length->i<=items2.length->Meets (dW.«list.__eq__.loop» ⟨[.ref l,.ref b,bU i,bU 0],[]⟩)
   (λA R s=>s.heap.get? l=some { cls:=.type "list",dict:=dd,data:=.seq items.toArray n,slots:=sl }/\s.heap.get? b=some { cls:=.type "list",dict:=dd2,data:=.seq items2.toArray n2,slots:=sl2 } /\
    R (.ok (.ret (.bool (zo (xs.drop i) (ys.drop i))))) s):=by
 have l1:=hx.length
 have l2:=hy.length
 induction k with
 | zero =>
  intro i hk hi hi2 prog w A R s h
  obtain ⟨hp,g,d,tk,os⟩:=s;obtain ⟨hl,hb,h⟩:=h
  wp_walk using bX hl,bX hb
  have e1:items.toArray[((i:Nat):Int).toNat]? = none:=by simp;omega
  have hd:xs.drop i=[]:=by simp;omega
  rw [hd] at h
  rw [e1]
  wp_walk using bX hl,bX hb
  show R (.ok (.ret (.bool (decide (items.toArray.size<items2.toArray.size))))) _
  have e2:decide (items.toArray.size<items2.toArray.size)=zo [] (ys.drop i):=by
   by_cases hlt:i<ys.length
   ·rw [bQ hlt]
    exact decide_eq_true (by simp;omega)
   ·rw [m6 ∅]
    exact decide_eq_false (by simp;omega)
  rw [e2]
  exact h
 | succ k ih =>
  intro i hk hi hi2 prog w A R s h
  obtain ⟨hp,g,d,tk,os⟩:=s;obtain ⟨hl,hb,h⟩:=h
  have hlt:i<items.length:=∅
  obtain ⟨t,e1'⟩:=JS hx hlt
  have e1:items.toArray[((i:Nat):Int).toNat]? = some (.int (xs[i]'∅) t):=by simpa using e1'
  wp_walk using bX hl,bX hb
  rw [e1]
  by_cases hlt2:i<items2.length
  ·obtain ⟨u,e2'⟩:=JS hy hlt2
   have e2:items2.toArray[((i:Nat):Int).toNat]? = some (.int (ys[i]'∅) u):=by simpa using e2'
   rw [e2]
   rw [bQ (show i<xs.length by omega),bQ (show i<ys.length by omega)] at h
   unfold zo at h
   refine ae (lH ?_)
   have hc:((i:Int)+1)=((i+1:Nat):Int):=by push_cast;rfl
   by_cases e:xs[i]'∅=ys[i]'∅
   ·rw [if_pos e] at h
    rw [beq_iff_eq.mpr e]
    wp_walk
    rw [hc]
    exact ⟨fj plain_eq_loop _,eC entry_eq_loop (by
     rw [cN plain_eq_loop _]
     exact ih (i+1) ∅ ∅ ∅ prog w A R _ ⟨hl,hb,h⟩)⟩
   ·rw [if_neg e] at h
    rw [beq_eq_false_iff_ne.mpr e]
    wp_walk using bX hl,bX hb
    rw [e1,e2]
    refine ae (show ay (aD prog w) _ (richCompare .Lt _ _) _ _ _ from lt_int ?_)
    exact wpAny_pure h
  ·have e2:items2.toArray[((i:Nat):Int).toNat]? = none:=by simp;omega
   rw [e2]
   rw [bQ (show i<xs.length by omega),m6 (show ys.length<=i by omega)] at h
   wp_walk using bX hl,bX hb
   show R (.ok (.ret (.bool (decide (items.toArray.size<items2.toArray.size))))) _
   rw [decide_eq_false (by simp;omega)]
   exact h
theorem YL (l b:Addr) (items items2:List ag) (n n2:Nat) (dd dd2:Option Addr) (sl sl2:Array (Option ag)) {xs ys:List Int}(hx:cX items xs) (hy:cX items2 ys) :
  Meets (dW.«list.__lt__» ⟨[.ref l,.ref b],[]⟩)
   (λA R s=>s.heap.get? l=some { cls:=.type "list",dict:=dd,data:=.seq items.toArray n,slots:=sl }/\s.heap.get? b=some { cls:=.type "list",dict:=dd2,data:=.seq items2.toArray n2,slots:=sl2 } /\
    R (.ok (.ret (.bool (zo xs ys)))) s):=by
 intro prog w A R s h
 obtain ⟨hp,g,d,tk,os⟩:=s;obtain ⟨hl,hb,h⟩:=h
 have f3:=AutoSeq1.sub_list_list
 wp_walk using bX hl,bX hb
 exact ⟨fj plain_eq_loop _,eC entry_eq_loop (by
  rw [cN plain_eq_loop _]
  exact Yy l b items items2 n n2 dd dd2 sl sl2 hx hy _ 0 rfl (aC _) (aC _) prog w A R _ ⟨hl,hb,by simpa using h⟩)⟩
section
variable {prog:Program}{w:b9}{A:bj}{E:ag->Shared->Prop}{s:Shared}
theorem Xh {l b:Addr}{items items2:List ag}{xs ys:List Int}{n n2:Nat}{dd dd2:Option Addr}{sl sl2:Array (Option ag)}{Q:Bool->Shared->Prop}(hu:A.units<cLine)
  (hl:s.heap.get? l=some { cls:=.type "list",dict:=dd,data:=.seq items.toArray n,slots:=sl }) (hb:s.heap.get? b=some { cls:=.type "list",dict:=dd2,data:=.seq items2.toArray n2,slots:=sl2 })
  (hx:cX items xs) (hy:cX items2 ys) (h:Q (zo xs ys) s):ay (aD prog w) A (oneLt' true (.ref l) (.ref b)) Q E s:=by
 rw [oneLt'_eq]
 simp only [if_true]
 refine ae (wpAny_cRoomFor hu ?_)
 refine ae (wpAny_callSpecialIfBound?_slot ⟨_,hl,rfl⟩ mL (lY mL ⟨_,hl,rfl⟩ PySem.F.entry_list_lt (PySem.F.args_list_lt_2 _ _) (YL l b items items2 n n2 dd dd2 sl sl2 hx hy) ⟨hl,hb,?_⟩))
 exact bO h
theorem Z3 {x y:Addr}{ox oy:Obj}{items items2:List ag}{xs ys:List Int}{n k:Nat}{Q:Bool->Shared->Prop}(hx:s.heap.get? x=some ox) (dx:ox.data = .seq items.toArray n) (hy:s.heap.get? y=some oy) (dy:oy.data = .seq items2.toArray k)
  (ix:cX items xs) (iy:cX items2 ys) (h:Q (zo xs ys) s):ay (aD prog w) A (keyLt' (tuples' true) (.ref x) (.ref y)) Q E s:=by
 refine kat_lt hx dx hy dy ?_
 have go:∀(items items2:List ag) (xs ys:List Int) (i:Nat) (fin:Bool),cX items xs->cX items2 ys->(∀m:Nat,xs.length=m+items.length-items.length->True) ->
   fin=decide (items.length<items2.length)->Q (zo xs ys) s->KatLex prog w A true fin Q (items.zip items2) i s:=by
  intro items items2 xs ys i fin a b
  induction a generalizing items2 ys i with
  | nil =>
   intro _ hf hq
   cases b with
   | nil=>subst hf;exact hq
   | cons m u r=>subst hf;exact hq
  | cons m u r ih =>
   intro _ hf hq
   cases b with
   | nil=>subst hf;exact hq
   | cons m' u' r' =>
    refine kat_cons (lH ?_)
    unfold zo at hq
    by_cases e:m=m'
    ·rw [beq_iff_eq.mpr e]
     rw [if_pos e] at hq
     refine kat_yes (ih _ _ _ r' (λ_ _=>trivial) ?_ hq)
     rw [hf]
     simp
    ·rw [beq_eq_false_iff_ne.mpr e]
     rw [if_neg e] at hq
     refine kat_no ?_
     cases hb:(true && i == 0) with
     | true=>exact oneLt_int hq
     | false=>exact kat_one _ _ (lt_int hq)
 have e:(items.toArray.toList.zip items2.toArray.toList)=items.zip items2:=by simp
 rw [e]
 exact go items items2 xs ys 0 _ ix iy (λ_ _=>trivial) (by simp) h
end
end L2
end
section
namespace L2
open PySem.W
section
variable {prog:Program}{w:b9}{A:bj}{E:ag->Shared->Prop}{s:Shared}
theorem uq (its:List ag):(its.toArray.zip its.toArray).map (·.2)=its.toArray:=by
 apply Array.toList_inj.mp
 rw [pe,ksk_zip]
 show (its.zip its).map sS=its
 rw [pf]
 exact aq _
theorem vG (its:List ag):((aG its.length).map λi=>its.getD i b8)=its:=by
 apply lN
 ·simp
 ·intro i h1 h2
  simp at h1
  simp [h1]
theorem XE {l:Addr}{its:List ag}{κ:rM}{lt:Nat->Nat->Bool}{G:List Nat->Prop}{Q:ag->Shared->Prop}(hl:s.heap.IsList l its.toArray) (h64:its.length<64)
  (hk:2<=its.length->∀h',(∀b o,s.heap.get? b=some o->h'.get? b=some o)->∀Q':rM->Shared->Prop,Q' κ { s with heap:=h' }->ay (aD prog w) A.in1.in1 (keyKind' its.toArray) Q' (λ_ _=>False) { s with heap:=h' })
  (hc:∀h',(∀b o,s.heap.get? b=some o->h'.get? b=some o)->∀i j,i<its.length->j<its.length->∀Q':Bool->Shared->Prop,Q' (lt i j) { s with heap:=h' } ->
   ay (aD prog w) A.in1.in1 (keyLt' κ (its.getD i b8) (its.getD j b8)) Q' (λ_ _=>False) { s with heap:=h' })
  (hs:2<=its.length->xa lt its.length (sV its.length) λp=>qu its.length p/\G p.toList) (h1:its.length<2->G (aG its.length))
  (h:∀(ix:List Nat) (h':Heap) (n:Nat),ix.Perm (aG its.length)->G ix->(∀b o,s.heap.get? b=some o->h'.get? b=some o) ->
   h'.get? (s.heap.objs.size+1)=some (bt "list" (ix.map λi=>its.getD i b8).toArray n)->Q (.ref (s.heap.objs.size+1)) { s with heap:=h' }) :
  ay (aD prog w) A (call (.builtin "sorted") [.ref l]) Q E s:=by
 refine iW pL oE oF (args_sorted1 _) ?_
 unfold dW.«sorted»
 refine ae (m:=rN "sorted" 1 1 _) (wpAny_pure ?_)
 refine ae (collect_list hl ?_ (by rw [bA];omega))
 refine ae (fk ?_ (by rw [bA];omega))
 have hsz:((s.heap.push (bt "list" #[] 0)).update s.heap.objs.size (aY (· ++ its.toArray))).objs.size=s.heap.objs.size+1:=by
  rw [dM,nR]
 have ho:(((s.heap.push (bt "list" #[] 0)).update s.heap.objs.size (aY (· ++ its.toArray))).push (bt "list" its.toArray 0)).get? (s.heap.objs.size+1)=some (bt "list" its.toArray 0):=by
  rw [<- hsz];exact az _ rfl
 have keep:∀b o,s.heap.get? b=some o->(((s.heap.push (bt "list" #[] 0)).update s.heap.objs.size (aY (· ++ its.toArray))).push (bt "list" its.toArray 0)).get? b=some o:=λb o q=>by
  have hlt:b<s.heap.objs.size:=aw q
  rw [cA _ _ _ (by rw [hsz];exact aA (cc hlt)),c0 _ _ _ _ (aA hlt),cA _ _ _ (aA hlt)]
  exact q
 show ay _ _ _ _ _ { s with heap:=((s.heap.push (bt "list" #[] 0)).update s.heap.objs.size (aY (· ++ its.toArray))).push (bt "list" its.toArray 0) }
 rw [hsz]
 refine ae (bP (d8 mM ⟨_,ho,rfl⟩ mi ?body (rO _)))
 case body =>
  generalize hh0:((s.heap.push (bt "list" #[] 0)).update s.heap.objs.size (aY (· ++ its.toArray))).push (bt "list" its.toArray 0)=h0 at ho keep
  generalize ha:s.heap.objs.size+1=a at ho h
  have aNew:∀b o,s.heap.get? b=some o->b≠a:=λb o q=>by have:=aw q;rw [<- ha];exact aA (cc this)
  show ay (aD prog w) A.in1.in1 (dW.«list.sort» ⟨[.ref a],[]⟩) _ _ { s with heap:=h0 }
  rw [pN]
  have hal:a<h0.objs.size:=aw ho
  refine ae (m7 ho rfl ?_)
  refine ae (cM ho rfl ?_ (by rw [ar,bA];omega) (aC _))
  obtain ⟨e1,ho1⟩:∃e1,(h0.update a (aY λ_=>(#[]:Array ag))).get? a=some (bt "list" #[] e1):=⟨_,eE ho (λ_=>#[])⟩
  refine ae (eQ ho1 rfl ?_)
  refine ae (iT ?_ (by show its.length<=_;rw [bA];omega))
  refine ae (fk ?_ (aC _))
  refine bP ?_
  have ho6:(((h0.update a (aY λ_=>(#[]:Array ag))).push (bt "tuple" its.toArray 0)).push (bt "list" #[] 0)).get? a=some (bt "list" #[] e1):=by
   rw [cA _ _ _ (by rw [nR,dM];exact aA (cc hal)),cA _ _ _ (by rw [dM];exact aA hal)]
   exact ho1
  have keep6:∀b o,s.heap.get? b=some o->(((h0.update a (aY λ_=>(#[]:Array ag))).push (bt "tuple" its.toArray 0)).push (bt "list" #[] 0)).get? b=some o:=λb o q =>
   ai _ (ai _ ((c0 _ _ _ _ (aNew b o q)).trans (keep b o q)))
  show ay (aD prog w) A.in1.in1 _ _ _ { s with heap:=((h0.update a (aY λ_=>(#[]:Array ag))).push (bt "tuple" its.toArray 0)).push (bt "list" #[] 0) }
  generalize ((h0.update a (aY λ_=>(#[]:Array ag))).push (bt "tuple" its.toArray 0)).push (bt "list" #[] 0)=h6 at ho6 keep6
  dsimp only
  have fin:∀(ix:List Nat),ix.Perm (aG its.length)->G ix->∀out:Array ag,out=(ix.map λi=>its.getD i b8).toArray ->
    ∃v,rP (Flow.ret b8) = .done (.ret v)/\ay (aD prog w) A.in1 (do let _ <- pure v;ret (aS a)) (λfin s'=>∃v,fin = .done (.ret v)/\Q v s') E { s with heap:=h6.update a (aY λ_=>out) }:=λix hp hg out ho'=>by
   refine ⟨_,rfl,ae (wpAny_pure (wpAny_pure ⟨_,rfl,?_⟩))⟩
   subst ho'
   exact h ix _ _ hp hg (λb o q=>(c0 _ _ _ _ (aNew b o q)).trans (keep6 b o q)) (eE ho6 λ_=>_)
  by_cases h2:its.toArray.size<2
  ·rw [if_pos h2,if_pos h2]
   refine ae (wpAny_pure ?_)
   rw [mj]
   refine ae (wpAny_pure ?_)
   dsimp only
   refine ae (eQ ho6 rfl ?_)
   rw [uq]
   refine ae (cM ho6 rfl ?_ (aC _) (by rw [ar,bA];omega))
   simp only [bne_self_eq_false,cJ,if_false]
   rw [ar] at h2
   exact wpAny_pure (fin _ (mO _) (h1 h2) _ (by rw [vG]))
  ·rw [if_neg h2,if_neg h2]
   rw [ar] at h2
   refine ae (ba (hk ∅ h6 keep6 (λκ' s'=>κ'=κ/\s'={ s with heap:=h6 }) ⟨rfl,rfl⟩) (λκ' s' q=>?_) λ_ _ x=>x.elim)
   obtain ⟨rfl,rfl⟩:=q
   refine ae (ba (kat_run (ks:=its) (vs:=its) (κ:=κ') (G:=λp s'=>(qu its.length p/\G p.toList)/\s'={ s with heap:=h6 }) (Q:=λst' s'=>∃p:Array Nat,arrOf st'=p.map (sW (its.toArray.zip its.toArray))/\rQ st'=none/\(qu its.length p/\G p.toList)/\s'={ s with heap:=h6 })
    rfl ∅ h64 (λp st' s' a1 a2 a3 a4=>⟨p,a2,a3,a4⟩) (xa.wp (I:=λs'=>s'={ s with heap:=h6 }) (λi j C s' hi hj hI hC=>?_) (λp s' hp hI=>⟨hp,hI⟩) (hs ∅) rfl)) ?_ λ_ _ e=>e)
   ·subst hI
    exact hc h6 keep6 i j hi hj C (hC _ rfl)
   ·rintro ⟨⟨⟩,st'⟩ s' ⟨p,har,hf,⟨hP,hG⟩,rfl⟩
    dsimp only
    have hout:=sX (ks:=its) (vs:=its) rfl har
    have hz:(oG (p.toList.map λi=>its.getD i b8)).size=its.length:=by rw [ar,af,cF,hP.size]
    rw [hout]
    refine ae (eQ ho6 rfl ?_)
    refine ae (cM ho6 rfl ?_ (aC _) (by rw [hz,bA];omega))
    rw [hf]
    simp only [bne_self_eq_false,cJ,if_false]
    exact wpAny_pure (fin p.toList (by have:=Array.perm_iff_toList_perm.mp hP;simpa using this) hG _ rfl)
end
end L2
end
section
namespace L2
open PySem.W
noncomputable def ui (O:KeyOrd) (key:Nat->O.α) (vs out:List V):Prop:=∃ix:List Nat,ix.Perm (aG vs.length)/\out=(ix.map λi=>vs.getD i V.non)/\(ix.map key).Pairwise O.kle
theorem zn.pairwise {O:KeyOrd}{key:Nat->O.α}{p:Array Nat}{n:Nat}(hs:zn (O:=O) key p n) (hz:p.size=n):(p.toList.map key).Pairwise O.kle:=by
 rw [List.pairwise_iff_getElem]
 intro i j hi hj hij
 simp at hi hj
 have q:=hs i j (eV hij) ∅
 unfold kp at q
 have e1:p.getD i 0=p[i]:=by simp [nQ,hi]
 have e2:p.getD j 0=p[j]:=by simp [nQ,hj]
 rw [e1,e2] at q
 simpa using q
theorem gH:∀{vs:List V}{us:List ag},jC vs us->∀i,jE (vs.getD i V.non) (us.getD i b8)
 | _,_,.nil,_=>rfl
 | _,_,.cons r _,0=>r
 | _,_,.cons _ t,i+1=>gH t i
theorem uR {vs:List V}{us:List ag}(r:jC vs us):∀ix:List Nat,jC (ix.map λi=>vs.getD i V.non) (ix.map λi=>us.getD i b8)
 | []=>.nil
 | i::ix=>.cons (gH r i) (uR r ix)
theorem V5 {a b:Int}(h:Uk.kle a b):a<=b:=Int.not_lt.mp (of_decide_eq_false h)
noncomputable def yD (H:Hp) (vs:List V) (rows:List (List Int)):Prop:=cG (λv (r:List Int)=>∃a,v=V.ref a/\H a=some (.lst (r.map V.int))) vs rows
theorem Paired.get {α β:Type}{F:α->β->Prop}:∀{l₁:List α}{l₂:List β}{i:Nat}{x:α},cG F l₁ l₂->l₁[i]? = some x->∃y,l₂[i]? = some y/\F x y
 | _,_,_,_,.nil,e=>by simp at e
 | _,_,0,_,.cons r _,e=>by simp at e;subst e;exact ⟨_,rfl,r⟩
 | _,_,i+1,v,.cons _ t,e=>by
  obtain ⟨d,h1,h2⟩:=Paired.get (i:=i) (x:=v) t (by simpa using e)
  exact ⟨d,by simpa using h1,h2⟩
theorem zj:∀{ns:List Int}{us:List ag},jC (ns.map V.int) us->cX us ns
 | [],_,.nil=>.nil
 | n::ns,_,.cons ⟨t,e⟩ r=>by subst e;exact .cons n t (zj r)
section
variable {X:Cx}
theorem gA (K:ah) (hu:X.A.units+64<cLine) (hK:X.K=K:=by rfl):xc X (.builtin "sorted") (λxs H Q=>∃p vs rows,xs=[.ref p]/\SqL K H p vs/\vs.length<64/\yD H vs rows /\
  ∀l H' out,H l=none->H' l=some (.lst out)->jn H H'->ui ww (λi=>rows.getD i []) vs out->Q (.ref l) H'):=by
 subst hK
 intro pins s σ H xs us Q I r h
 obtain ⟨p,vs,rows,rfl,hq,h64,hr,k⟩:=h
 obtain ⟨u,rfl,ru⟩:=yV r
 cases ru
 obtain ⟨its,rv,pl,hz⟩:=I.list hq
 have hlen:its.length=vs.length:=rv.length.symm
 have item:∀i,i<its.length->∃a its' n,its.getD i b8 = .ref a/\s.heap.get? a=some { cls:=.type "list",data:=.seq its'.toArray n }/\cX its' (rows.getD i []):=λi hi=>by
  have e1:vs[i]? = some (vs[i]'∅):=aa ∅
  obtain ⟨y,e2,a,e3,e4⟩:=Paired.get hr e1
  obtain ⟨u,e5,ru⟩:=rv.get e1
  rw [e3] at ru
  cases ru
  obtain ⟨z,its',n,rv',e6⟩:=I.hok a _ e4
  refine ⟨a,its',n,by rw [ao,e5];rfl,e6,?_⟩
  rw [ao,e2]
  exact zj rv'
 have hun:X.A.in1.in1.units<cLine:=by
  show X.A.units+1+1<cLine
  omega
 refine XE (κ:=oneType') (lt:=ltK ww λi=>rows.getD i []) (G:=λix=>(ix.map λi=>rows.getD i []).Pairwise ww.kle) pl.isList ∅ (λh2 h' hk' Q' q=>?_) (λh' hk' i j hi hj Q' q=>?_) (λh2=>?_) (λh1=>?_) λix h' n hp hg hk' hn=>?_
 ·refine kas_kind (T:=.type "list") h2 (λv hv=>?_) rfl rfl q
  obtain ⟨i,hi,rfl⟩:=List.mem_iff_getElem.mp hv
  obtain ⟨a,its',n,e1,e2,_⟩:=item i hi
  have e3:its[i] = .ref a:=by rw [<- e1];simp [hi]
  rw [e3]
  exact (show Looks _ h' (p0 (.ref a)) _ from (Looks.ld (hk' _ _ e2)).andThen .now)
 ·obtain ⟨a,its',n,e1,e2,e3⟩:=item i hi
  obtain ⟨b,its2,n2,f1,f2,f3⟩:=item j hj
  rw [e1,f1,keyLt'_oneType]
  exact Xh hun (hk' _ _ e2) (hk' _ _ f2) e3 f3 q
 ·exact kg ∅ λp' hP hS=>⟨hP,hS.pairwise hP.size⟩
 ·have hcase:its.length=0\/its.length=1:=∅
  rcases hcase with z | z
  ·rw [z];exact fM
  ·rw [z];exact fC _ _
 ·have hf:H (s.heap.objs.size+1)=none:=I.hok.fresh (fB _)
  refine ⟨.ref _,upd H (s.heap.objs.size+1) (.lst (ix.map λi=>vs.getD i V.non)),I.laid (t':=s.toks) hk' (fB _) ⟨?_,_,n,uR rv ix,hn⟩,rfl,k _ _ _ hf j5 (jn.new hf) ⟨ix,by rw [<- hlen];exact hp,rfl,hg⟩⟩
  rw [af,hp.length_eq,br]
  exact aF (by omega:its.length<=1000) ⋯
end
end L2
end
section
namespace L2
open PySem.W
noncomputable abbrev uj (qual:Str) (params:Arguments) (body:Expr) (scope:Scope) (pm:ag) (c:Addr) (ctv:ag):FuncData:=kla_fn "<lambda>" qual params body scope [] pm (.ref c) ctv
noncomputable def YJ (f:Addr) (fd:FuncData):HO:=.ext λh=>h.get? f=some { cls:=.type "function",data:=.func fd }
noncomputable def Za (c:Addr) (qual:Str):HO:=.ext λh=>h.CodeRec (.ref c) qual
noncomputable def Tab (H:Hp) (Pt:Addr) (pos:Pos) (qual:Str):Prop:=H Pt=some (.tbl #[])\/∃c',H Pt=some (.tbl #[bU pos.line,bU pos.col,.ref c'])/\H c'=some (Za c' qual)
theorem Tab.ne {H:Hp}{Pt:Addr}{pos:Pos}{qual:Str}(T:Tab H Pt pos qual):∃ps,H Pt=some (.tbl ps):=by
 rcases T with z | ⟨c',z,_⟩
 ·exact ⟨_,z⟩
 ·exact ⟨_,z⟩
theorem Tab.same {H H':Hp}{Pt:Addr}{pos:Pos}{qual:Str}(T:Tab H Pt pos qual) (s:jn H H'):Tab H' Pt pos qual:=by
 rcases T with z | ⟨c',z,y⟩
 ·exact .inl (s _ _ z)
 ·exact .inr ⟨c',s _ _ z,s _ _ y⟩
theorem Tab.ext {H H':Hp}{Pt b:Addr}{pos:Pos}{qual:Str}{xs:List V}(T:Tab H Pt pos qual) (hb:H b=some (.lst xs)) (e:Ext b H H'):Tab H' Pt pos qual:=by
 rcases T with z | ⟨c',z,y⟩
 ·exact .inl (e _ _ z (ji z hb (by intro q;cases q)))
 ·exact .inr ⟨c',e _ _ z (ji z hb (by intro q;cases q)),e _ _ y (ji y hb (by intro q;cases q))⟩
theorem Tab.extN {H H':Hp}{Pt b:Addr}{pos:Pos}{qual:Str}(T:Tab H Pt pos qual) (hb:H b=none) (e:Ext b H H'):Tab H' Pt pos qual:=T.same λc o h=>e c o h (j1 h hb)
noncomputable def Bm (mg:Str->Option ag) (base:Heap):Prop:=∃bm ob,mg "__builtins__" = some (.ref bm)/\bm≠lR/\base.get? bm=some ob/\ob.cls = .type "module" /\ ob.dict=some lR/\ob.data = .plain
theorem UV {P:Program}{w:b9}{K:ah}{mg:Str->Option ag}{base:Heap}{k:Nat}{f c:Addr}{qual:Str}{params:Arguments}{body:Expr}{scope:Scope}{pm ctv:ag}{N:List Str}{x:Str}{A:bj}{outer:List Env}{s:Shared}{H:Hp}{u:ag}{v:V}{Q:VK}{t:TE}
  (ho:s.heap.get? f=some { cls:=.type "function",data:=.func (uj qual params body scope pm c ctv) }) (hcd:s.heap.CodeRec (.ref c) qual) (S:FnScope N [x] scope) (hr:Room (k+1) A) (e0:Env0 P w K mg base A outer s H)
  (hb:∀pm c ctv u,cw (uj qual params body scope pm c ctv) ⟨[u],[]⟩=pure [(x,u)]) (r:jE v u)
  (ht:PE (vW CX0 P w K mg base N qual scope f (.ref c) A outer s H E0).nox body t) (q:t (start N [v]) H Q) :
  cO (aD P w) A (.call (.ref f) ⟨[u],[]⟩) (CR CX0 outer P w H s Q E0) s:=by
 have lim:s.heap.NoLimit:=e0.mod.nolimit.keeps λb o e=>(e0.bs b o e).1
 have hkind:∀y∈([x].zip [u]),scope.names.lookup y.1=some .local\/(scope.names.lookup y.1=some .cell/\((oY (s.heap.objs.size+1) scope.names []).lookup y.1).isSome=true):=λ⟨n,v⟩ hy=>by
  rcases S.par n (iq hy).1 with q | q
  ·exact .inl q
  ·exact .inr ⟨q,fK _ _ _ (.inl q)⟩
 refine kla_callFunE hr.depth ho rfl S.co S.gen rfl hcd ?_
 rw [hb]
 refine wpAny_pure (iQ (binds:=[x].zip [u]) S.kind hkind λenv he s1 y=>?_)
 subst he
 refine ⟨lim.keeps y.toInCall.keep,kla_codeExpr ?_⟩
 have I:Inv (vW CX0 P w K mg base N qual scope f (.ref c) A outer s H E0) [] (start N [v]) H s1:=Jb S hr.hd e0 rfl (Paired.cons r .nil) y
 refine ba (ht.nox [] s1 (start N [v]) H _ I q) (λu' s' hs=>?_) λe s' hs=>hs
 obtain ⟨v',H',J,rv,q'⟩:=hs
 exact ⟨v',H',J.os,J.bare,J.base,J.hok,rv,q'⟩
section
variable {X:Cx}{pins:List (Addr×Obj)}{σ:St}{H:Hp}{s:Shared}
theorem Vs {E:ag->Shared->Prop}{c Pt:Addr}{params:Arguments}{body:Expr}{scope:Scope}{pos:Pos}{Q:ag->Shared->Prop}(I:Inv X pins σ H s) (hcode:X.env.code = .ref c) (CH:CodeHd X.base c Pt) (hB:Bm X.mg X.base)
  (hcl:nN scope X.env=pure []) (hdef:defaultsOf params X.env=([],[])) (T:Tab H Pt pos (X.env.qual ++ "<lambda>"))
  (k:∀f H' s' pm c' ctv,Inv X pins σ H' s'->H f=none->H' f=some (YJ f (uj (X.env.qual ++ "<lambda>") params body scope pm c' ctv))->H' c'=some (Za c' (X.env.qual ++ "<lambda>"))->Ext Pt H H'->Tab H' Pt pos (X.env.qual ++ "<lambda>")->Q (.ref f) s') :
  ay (aD X.prog X.w) X.A (eval (.Lambda params body scope pos) X.env) Q E s:=by
 refine kla_eval hdef ?_
 obtain ⟨bm,ob,b1,b2,b3,b4,b5,b6⟩:=hB
 obtain ⟨ps0,hPt⟩:=T.ne
 have trk:∀{b:Addr} {o:Obj},X.base.get? b=some o->b≠Pt:=λ{b o} e z=>by
  have:=(I.bs b o e).2
  rw [z,hPt] at this;cases this
 have hgN:s.heap.Ns mainGlobals X.mg:=I.ok.mod.glob.keeps I.bk
 have hgP:mainGlobals≠Pt:=by
  obtain ⟨o,es,ep,e,_⟩:=I.ok.mod.glob
  exact trk e
 have hbG:bm≠mainGlobals:=λq=>by
  obtain ⟨o,es,ep,e,hd,_⟩:=I.ok.mod.glob
  rw [q,e] at b3;cases b3;rw [hd] at b6;cases b6
 have hBA:s.heap.BuiltinsAt X.mg Pt:=⟨bm,ob,b1,b2,hbG,trk b3,I.bk _ _ b3,b4,b5,b6⟩
 have LS:∀(f:Addr) (fd:FuncData) (h1 h2:Heap),h1.get? f=some { cls:=.type "function",data:=.func fd }->(∀o,h1.get? f=some o->h2.get? f=some o)->h2.get? f=some { cls:=.type "function",data:=.func fd }:=λf fd h1 h2 e m=>m _ e
 have CS:∀(c:Addr) (q:Str) (h1 h2:Heap),h1.CodeRec (.ref c) q->(∀o,h1.get? c=some o->h2.get? c=some o)->h2.CodeRec (.ref c) q:=λc q h1 h2 ⟨c',o,vs,t,e,g,r⟩ m=>by
  cases e
  exact ⟨c,o,vs,t,rfl,m _ g,r⟩
 rcases T with hT | ⟨c',hT,hC⟩
 ·have eT:s.heap.get? Pt=some (rf #[]):=I.hok Pt _ hT
  refine kla_makeFunction (mg:=X.mg) hcl I.ok.glob hgN hcode (CH.keeps I.bk) eT trivial rfl hgP hBA λc' ctv h' tk hx hge hlt hrec htb=>?_
  have hcN:H c'=none:=I.hok.fresh hge
  have hsz:s.heap.objs.size<=h'.objs.size:=eV (bR hge hlt)
  have hfN:H h'.objs.size=none:=I.hok.fresh hsz
  have neC:∀{b:Addr} {o:Obj},s.heap.get? b=some o->b≠c':=λ{b o} e=>aA (aQ (aw e) hge)
  have neF:∀{b:Addr} {o:Obj},s.heap.get? b=some o->b≠h'.objs.size:=λ{b o} e=>aA (aQ (aw e) hsz)
  have hPc:Pt≠c':=neC eT
  have hPf:Pt≠h'.objs.size:=neF eT
  have hcf:c'≠h'.objs.size:=aA hlt
  have e':h'.get? Pt=some (rf #[bU pos.line,bU pos.col,.ref c']):=by simpa using htb
  have getF:∀{b:Addr} {o:HO},H b=some o->b≠Pt->upd (upd (upd H Pt (.tbl #[bU pos.line,bU pos.col,.ref c'])) c' (Za c' (X.env.qual ++ "<lambda>"))) h'.objs.size (YJ h'.objs.size (uj (X.env.qual ++ "<lambda>") params body scope ((X.mg "__name__").getD .none) c' ctv)) b=some o:=λ{b o} e n=>by
   rw [j6 (j1 e hfN),j6 (j1 e hcN),j6 n];exact e
  have atP:upd (upd (upd H Pt (.tbl #[bU pos.line,bU pos.col,.ref c'])) c' (Za c' (X.env.qual ++ "<lambda>"))) h'.objs.size (YJ h'.objs.size (uj (X.env.qual ++ "<lambda>") params body scope ((X.mg "__name__").getD .none) c' ctv)) Pt=some (.tbl #[bU pos.line,bU pos.col,.ref c']):=by
   rw [j6 hPf,j6 hPc,j5]
  have atC:upd (upd (upd H Pt (.tbl #[bU pos.line,bU pos.col,.ref c'])) c' (Za c' (X.env.qual ++ "<lambda>"))) h'.objs.size (YJ h'.objs.size (uj (X.env.qual ++ "<lambda>") params body scope ((X.mg "__name__").getD .none) c' ctv)) c'=some (Za c' (X.env.qual ++ "<lambda>")):=by
   rw [j6 hcf,j5]
  refine k h'.objs.size (upd (upd (upd H Pt (.tbl #[bU pos.line,bU pos.col,.ref c'])) c' (Za c' (X.env.qual ++ "<lambda>"))) h'.objs.size (YJ h'.objs.size (uj (X.env.qual ++ "<lambda>") params body scope ((X.mg "__name__").getD .none) c' ctv))) _ ((X.mg "__name__").getD .none) c' ctv ?_ hfN j5 atC (λb o e n=>getF e n) (.inr ⟨c',atP,atC⟩)
  have kp1:∀b o,b≠Pt->s.heap.get? b=some o->(h'.push (kla_obj "<lambda>" (X.env.qual ++ "<lambda>") params body scope [] ((X.mg "__name__").getD .none) c' ctv)).get? b=some o:=λb o n e=>ai _ (hx b o n e)
  have nP:∀{b:Addr},H b=none->b≠Pt:=λ{b} e z=>by rw [z,hT] at e;cases e
  refine I.step (g':=s.gens) (d':=s.drawn) (ch:=[]) (λ_ z=>nomatch z) (λb o _ _ _ e n=>kp1 b o (nP n) e) (λb o _ _ _ e n=>⟨o.slots,kp1 b o (nP n) e⟩) (λb o _ e n=>?_) (λb o _ e=>?_) (λb xs e=>?_) (λb o u e=>?_) (λb ps e=>?_) (λm hm=>?_) (λb u e=>?_) I.bare
  ·rw [j6 (neF e),j6 (neC e),j6 (nP n)];exact n
  ·by_cases hb:b=Pt
   ·subst hb;exact ⟨_,ai _ e'⟩
   ·exact ⟨o,kp1 b o hb e⟩
  ·exact getF e (ji e hT (by intro z;cases z))
  ·exact getF e (ji e hT (by intro z;cases z))
  ·by_cases hb:b=Pt
   ·subst hb
    rw [hT] at e;cases e
    exact ⟨#[bU pos.line,bU pos.col,.ref c'],by rw [atP];simp⟩
   ·exact ⟨#[],by rw [getF e hb];simp⟩
  ·obtain ⟨o,es,ep,ho,r⟩:=hm
   exact ⟨o,es,ep,kp1 _ o (nP I.free) ho,r⟩
  ·by_cases h1:b=h'.objs.size
   ·subst h1
    rw [j5] at e;cases e
    exact ⟨az _ rfl,⟨_,az _ rfl⟩,λh1 h2 e m=>LS _ _ h1 h2 e m⟩
   ·by_cases h2:b=c'
    ·subst h2
     rw [atC] at e;cases e
     obtain ⟨c2,oc,vs,t,e2,hoc,r⟩:=id hrec
     cases e2
     exact ⟨hrec.keeps λb o e=>ai _ e,⟨_,ai _ hoc⟩,λh1 h2 e m=>CS _ _ h1 h2 e m⟩
    ·by_cases h3:b=Pt
     ·subst h3
      rw [atP] at e;cases e
      exact ai _ e'
     ·rw [j6 h1,j6 h2,j6 h3] at e
      refine (I.hok b u e).stay (λb' v hc q=>kp1 b' v ?_ q) (λb' q=>getF q (ji q hT (by intro z;cases z))) λb' xs q=>getF q (ji q hT (by intro z;cases z))
      rcases hc with z | z
      ·rw [z];exact h3
      ·exact ji z hT (by intro z;cases z)
 ·have eT:s.heap.get? Pt=some (rf #[bU pos.line,bU pos.col,.ref c']):=I.hok Pt _ hT
  have tri:TriplesOk (#[bU pos.line,bU pos.col,aS c']:Array ag).toList:=TriplesOk_snoc pos.line pos.col (.ref c') [] trivial
  have hit:codeAmong pos (#[bU pos.line,bU pos.col,aS c']:Array ag).toList=some (.ref c'):=codeAmong_snoc (c:=.ref c') [] trivial rfl
  refine kla_makeFunctionHit (mg:=X.mg) hcl I.ok.glob hgN hcode (CH.keeps I.bk) eT tri hit hBA λctv h' tk hk hsz=>?_
  have hfN:H h'.objs.size=none:=I.hok.fresh hsz
  refine k h'.objs.size (upd H h'.objs.size (YJ h'.objs.size (uj (X.env.qual ++ "<lambda>") params body scope ((X.mg "__name__").getD .none) c' ctv))) _ ((X.mg "__name__").getD .none) c' ctv ?_ hfN j5 (by rw [j6 (j1 hC hfN)];exact hC) (Ext.new hfN) (.inr ⟨c',by rw [j6 (j1 hT hfN)];exact hT,by rw [j6 (j1 hC hfN)];exact hC⟩)
  exact I.laid (λb o e=>ai _ (hk b o e)) hsz ⟨az _ rfl,⟨_,az _ rfl⟩,λh1 h2 e m=>LS _ _ h1 h2 e m⟩
theorem Inv.adopt {D:Addr}{ob:Obj}{o:HO}{h':Heap}{t':Nat}(I:Inv X ((D,ob)::pins) σ H s) (h1:X.s₀.heap.objs.size<=D) (h2:∀x c,X.env.cells.lookup x=some c->c≠D) (h3:∀p∈X.pn++pins,p.1≠D)
  (k:∀b u,b≠D->s.heap.get? b=some u->h'.get? b=some u) (new:qi X.prog X.w (upd H D o) h' D o):Inv X pins σ (upd H D o) { s with heap:=h',toks:=t' }:=by
 obtain ⟨eD,nD,lD,_,_⟩:=I.pin (D,ob) (aH _ aI)
 have I':Inv X pins σ H s:=I.pins_of λp hp=>I.pin p (aH _ (aE _ hp))
 have nit:∀b u,H b=some u->b≠D:=λb u e z=>by rw [z,nD] at e;cases e
 have getF:∀{b:Addr} {u:HO},H b=some u->upd H D o b=some u:=λ{b u} e=>by rw [j6 (nit b u e)];exact e
 refine I'.step (g':=s.gens) (d':=s.drawn) (ch:=[D]) (λb hb=>?_) (λb o _ _ hc e _=>k b o (λz=>hc (by simp [z])) e) (λb o _ _ hc e _=>⟨o.slots,k b o (λz=>hc (by simp [z])) e⟩) (λb o hc _ n=>by rw [j6 (λz=>hc (by simp [z]))];exact n)
  (λb o hc e=>⟨o,k b o (λz=>hc (by simp [z])) e⟩) (λ_ _ e=>getF e) (λ_ _ _ e=>getF e) (λb ps e=>⟨#[],by rw [getF e];simp⟩) (λm hm=>?_) (λb u e=>?_) I'.bare
 ·have e:b=D:=by simpa using hb
  subst e
  exact ⟨.inr h1,lD,h2,h3⟩
 ·obtain ⟨o,es,ep,ho,r⟩:=hm
  exact ⟨o,es,ep,k _ o (cj lD) ho,r⟩
 ·by_cases hb:b=D
  ·subst hb
   rw [j5] at e;cases e
   exact new
  ·rw [j6 hb] at e
   refine (I'.hok b u e).stay (λc v hc q=>k c v ?_ q) (λ_ q=>getF q) λ_ _ q=>getF q
   rcases hc with z | z
   ·rw [z];exact hb
   ·exact nit c _ z
end
end L2
end
section
namespace L2
open PySem.W
noncomputable def WC (H:Hp) (ks:List V) (keyf:Nat->List Int) (j:Nat):Prop:=ks.length=j/\∀i,i<j->∃q,ks[i]? = some (V.ref q)/\H q=some (.tup ((keyf i).map V.int))
theorem QC {a b:List ag}(h:a.length=b.length):(a.toArray.zip b.toArray).map (·.2)=b.toArray:=by
 apply Array.toList_inj.mp
 rw [pe,ksk_zip]
 show (a.zip b).map sS=b
 rw [pf]
 omega
section
variable {X:Cx}{pins:List (Addr×Obj)}{σ:St}{H:Hp}{s:Shared}
theorem QJ {E:ag->Shared->Prop}{p f:Addr}{vs:List V}{keyf:Nat->List Int}{Q:ag->Shared->Prop}(I:Inv X pins σ H s) (hq:SqL X.K H p vs) (h64:vs.length<64) (hne:∀i,i<vs.length->keyf i≠[])
  (hcall:∀i v,vs[i]? = some v->∀pins' s' H' u,Inv X pins' σ H' s'->jn H H'->jE v u->ay (aD X.prog X.w) X.A.in1.in1 (call (.ref f) [u]) (EP X pins' σ λkv H''=>jn H' H''/\∃q,kv = .ref q/\H'' q=some (.tup ((keyf i).map V.int))) (λ_ _=>False) s')
  (k:∀l H' out s',Inv X pins σ H' s'->H l=none->H' l=some (.lst out)->jn H H'->ui ww keyf vs out->Q (.ref l) s') :
  ay (aD X.prog X.w) X.A (call (.builtin "sorted") [.ref p] [(aj "key",.ref f)]) Q E s:=by
 obtain ⟨its,rv,pl,hz⟩:=I.list hq
 have hlen:its.length=vs.length:=rv.length.symm
 refine call_function_entry_kw pL oE oF (ksk_s1 _ _) ?_
 unfold dW.«sorted»
 refine ae (m:=rN "sorted" 1 1 _) (wpAny_pure ?_)
 refine ae (collect_list pl.isList ?_ (by rw [bA];omega))
 refine ae (fk ?_ (by rw [bA];omega))
 have hsz:((s.heap.push (bt "list" #[] 0)).update s.heap.objs.size (aY (· ++ its.toArray))).objs.size=s.heap.objs.size+1:=by
  rw [dM,nR]
 have ho:(((s.heap.push (bt "list" #[] 0)).update s.heap.objs.size (aY (· ++ its.toArray))).push (bt "list" its.toArray 0)).get? (s.heap.objs.size+1)=some (bt "list" its.toArray 0):=by
  rw [<- hsz];exact az _ rfl
 have keep:∀b o,s.heap.get? b=some o->(((s.heap.push (bt "list" #[] 0)).update s.heap.objs.size (aY (· ++ its.toArray))).push (bt "list" its.toArray 0)).get? b=some o:=λb o q=>by
  have hlt:b<s.heap.objs.size:=aw q
  rw [cA _ _ _ (by rw [hsz];exact aA (cc hlt)),c0 _ _ _ _ (aA hlt),cA _ _ _ (aA hlt)]
  exact q
 show ay _ _ _ _ _ { s with heap:=((s.heap.push (bt "list" #[] 0)).update s.heap.objs.size (aY (· ++ its.toArray))).push (bt "list" its.toArray 0) }
 rw [hsz]
 refine ae (bP (wpAny_call_entry_kw mM ⟨_,ho,rfl⟩ mi ?body (ksk_l1 _ _)))
 case body =>
  generalize ((s.heap.push (bt "list" #[] 0)).update s.heap.objs.size (aY (· ++ its.toArray))).push (bt "list" its.toArray 0)=h0 at ho keep
  generalize ha:s.heap.objs.size+1=a at ho
  have hDs:s.heap.objs.size<=a:=by rw [<- ha];exact fB _
  have aNew:∀b o,s.heap.get? b=some o->b≠a:=λb o q=>by have:=aw q;rw [<- ha];exact aA (cc this)
  show ay (aD X.prog X.w) X.A.in1.in1 (dW.«list.sort» ⟨[.ref a],[(aj "key",.ref f)]⟩) _ _ { s with heap:=h0 }
  rw [ksk_t1]
  unfold ksk_tree
  have hal:a<h0.objs.size:=aw ho
  refine ae (m7 ho rfl ?_)
  refine ae (cM ho rfl ?_ (by rw [ar,bA];omega) (aC _))
  obtain ⟨e1,ho1⟩:∃e1,(h0.update a (aY λ_=>(#[]:Array ag))).get? a=some (bt "list" #[] e1):=⟨_,eE ho (λ_=>#[])⟩
  refine ae (eQ ho1 rfl ?_)
  refine ae (iT ?_ (by show its.length<=_;rw [bA];omega))
  refine ae (fk ?_ (aC _))
  refine bP ?_
  have ho5:((h0.update a (aY λ_=>(#[]:Array ag))).push (bt "tuple" its.toArray 0)).get? a=some (bt "list" #[] e1):=ai _ ho1
  have keep5:∀b o,s.heap.get? b=some o->((h0.update a (aY λ_=>(#[]:Array ag))).push (bt "tuple" its.toArray 0)).get? b=some o:=λb o q =>
   ai _ ((c0 _ _ _ _ (aNew b o q)).trans (keep b o q))
  show ay (aD X.prog X.w) X.A.in1.in1 (ksk_rest a (.ref f) false its.toArray e1 (.ref ((h0.update a (aY λ_=>(#[]:Array ag))).push (bt "tuple" its.toArray 0)).objs.size)) _ _
   { s with heap:=((h0.update a (aY λ_=>(#[]:Array ag))).push (bt "tuple" its.toArray 0)).push (bt "list" #[] 0) }
  generalize (h0.update a (aY λ_=>(#[]:Array ag))).push (bt "tuple" its.toArray 0)=h5 at ho5 keep5
  have I5:Inv X pins σ H { s with heap:=h5,toks:=s.toks }:=I.kept keep5
  have hHa:H a=none:=I.hok.fresh hDs
  have hHk:H h5.objs.size=none:=I5.hok.fresh (aq _)
  have hLoc:a≠X.env.locals:=λz=>by
   obtain ⟨m,⟨o,es,ep,e,_⟩,_⟩:=I.loc
   exact aNew _ _ e z.symm
  have hFs:a∉X.fs:=I.nofs hDs
  have hCell:∀x c,X.env.cells.lookup x=some c->c≠a:=λx c e=>by
   obtain ⟨v,o,e2,_⟩:=I.cell x c e
   exact aNew c o e2
  have hPins:∀q∈X.pn++pins,q.1≠a:=λq hq=>aNew _ _ (I.pin q hq).1
  have I6:Inv X ((a,bt "list" #[] e1)::pins) σ (upd H h5.objs.size (.lst [])) { s with heap:=h5.push (bt "list" #[] 0),toks:=s.toks }:=by
   refine Inv.pins_of (I5.lnew (its:=[]) (ys:=[]) .nil (aC _)) λq hq=>?_
   rcases List.mem_cons.mp hq with rfl | hq
   ·refine ⟨ai _ ho5,?_,hLoc,hFs,λv=>by intro z;cases z⟩
    rw [j6 (aA (aw ho5))]
    exact hHa
   ·have J:=(I5.lnew (its:=[]) (ys:=[]) (t':=s.toks) .nil (aC _)).pin q (aH _ hq)
    exact J
  unfold ksk_rest
  refine ae (fq ?_)
  first
   | rw [List.forIn_toArray]
   | (rw [<- nU];simp only [List.toList_toArray])
   | rw [<- nU]
  refine ae (ksk_fold (λj s'=>∃H' ks,Inv X ((a,bt "list" #[] e1)::pins) σ H' s'/\jn H H'/\H' h5.objs.size=some (.lst ks)/\WC H' ks keyf j) its 0 _
   ⟨_,[],I6,jn.new hHk,j5,rfl,λi hi=>absurd hi (pO _)⟩ (λj x s' hx hJ=>?_) λs' hJ=>?_)
  ·-- a key
   rw [fO] at hJ ⊢
   obtain ⟨H',ks,J,sm,hk,hl,hks⟩:=hJ
   have hj:j<its.length:=(List.getElem?_eq_some_iff.mp hx).1
   have hv:vs[j]? = some (vs[j]'∅):=aa ∅
   obtain ⟨u,e5,ru⟩:=rv.get hv
   rw [hx] at e5
   cases e5
   refine ae (nA (ba (hcall j _ hv _ s' H' x J sm ru) (λkv s'' hk2=>?_) λ_ _ hF=>hF.elim))
   obtain ⟨kv',H'',J2,rk,sm2,q,rfl,hqq⟩:=hk2
   dsimp only
   have hk':=sm2 _ _ hk
   obtain ⟨z,itk,n,rvk,hlk,ek⟩:=J2.lstM hk'
   refine ae (cM ek rfl ?_ (by rw [ar,<- hlk,hl,bA];omega) (aF (oi (Array.size_push ..)) (by rw [ar,<- hlk,hl,bA];omega)))
   refine wpAny_pure ⟨rfl,_,ks++[.ref q],J2.lset (t':=s''.toks) (its':=itk++[kv]) hk' ek (by simp) (rvk.append (.cons rk .nil)) (by rw [ak,bg,hl];exact aF (by omega:j+1<=1000) ⋯),λb o e=>?_,j5,?_,λi hi=>?_⟩
   ·rw [j6 (j1 e hHk)]
    exact sm2 _ _ (sm _ _ e)
   ·rw [ak,bg,hl]
   ·by_cases hij:i<j
    ·obtain ⟨q',e6,e7⟩:=hks i hij
     refine ⟨q',by rw [cI ∅];exact e6,?_⟩
     have e8:=sm2 _ _ e7
     rw [j6 (ji e8 hk' (by intro z;cases z))]
     exact e8
    ·have:i=j:=∅
     subst this
     refine ⟨q,by rw [c5 ∅,hl];simp,?_⟩
     rw [j6 (ji hqq hk' (by intro z;cases z))]
     exact hqq
  ·-- behind the keys
   rw [fO] at hJ
   obtain ⟨H',ks,J,sm,hk,hl,hks⟩:=hJ
   obtain ⟨z,itk,n,rvk,hlk,ek⟩:=J.lstM hk
   have hlk':itk.length=its.length:=∅
   refine ae (m7 ek rfl ?_)
   obtain ⟨eD,nD,_⟩:=J.pin (a,bt "list" #[] e1) (aH _ aI)
   have hak:a≠h5.objs.size:=λz=>by rw [z,hk] at nD;cases nD
   have keyAt:∀i,i<its.length->∃q itq o m,itk.getD i b8 = .ref q/\s'.heap.get? q=some o/\o.cls = .type "tuple" /\ o.data = .seq itq.toArray m/\cX itq (keyf i):=λi hi=>by
    obtain ⟨q,e6,e7⟩:=hks i hi
    obtain ⟨u,e8,ru⟩:=rvk.get e6
    cases ru
    obtain ⟨zz,itq,rq,o,e9,ec,m,ed⟩:=J.hok q _ e7
    exact ⟨q,itq,o,m,by rw [ao,e8];rfl,e9,ec,ed,zj rq⟩
   have fin:∀(ix:List Nat) (st':SortSt),ix.Perm (aG its.length)->(ix.map keyf).Pairwise ww.kle->rQ st'=none->(arrOf st').map (·.2)=(ix.map λi=>its.getD i b8).toArray ->
     ay (aD X.prog X.w) X.A.in1.in1 (ksk_tail a false e1 (.ref h5.objs.size) st') (λfin s'=>∃v,fin = .done (.ret v)/\ay (aD X.prog X.w) X.A.in1 (do let _ <- pure v;ret (aS a)) (λfin s'=>∃v,fin = .done (.ret v)/\Q v s') E s') E s':=by
    intro ix st' hp hg hf hout
    unfold ksk_tail
    dsimp only
    rw [hout]
    have hol:(ix.map λi=>its.getD i b8).length<64:=by rw [af,hp.length_eq,br];omega
    refine ae (cM ek rfl ?_ (by rw [ar,hlk',bA];omega) (aC _))
    refine ae (mP ?_)
    have J2:Inv X ((a,bt "list" #[] e1)::pins) σ (upd H' h5.objs.size (.lst [])) { s' with heap:=s'.heap.update h5.objs.size (aY λ_=>(#[]:Array ag)),toks:=s'.toks }:=J.lset (its':=[]) (ys:=[]) hk ek rfl .nil (aC _)
    have eD2:(s'.heap.update h5.objs.size (aY λ_=>(#[]:Array ag))).get? a=some (bt "list" #[] e1):=(c0 _ _ _ _ hak).trans eD
    refine ae (eQ eD2 rfl ?_)
    refine ae (cM eD2 rfl ?_ (aC _) (by simp only [cJ,if_false];rw [ar,bA];omega))
    rw [hf]
    simp only [bne_self_eq_false,cJ,if_false]
    refine wpAny_pure ⟨_,rfl,ae (wpAny_pure (wpAny_pure ⟨_,rfl,?_⟩))⟩
    have eo:∃n,((s'.heap.update h5.objs.size (aY λ_=>(#[]:Array ag))).update a (aY λ_=>(ix.map λi=>its.getD i b8).toArray)).get? a=some (bt "list" (ix.map λi=>its.getD i b8).toArray n):=⟨_,eE eD2 λ_=>_⟩
    obtain ⟨n',eo⟩:=eo
    have J3:=J2.adopt (o:=.lst (ix.map λi=>vs.getD i V.non)) (t':=s'.toks) (aF I.sz hDs) hCell hPins
     (h':=(s'.heap.update h5.objs.size (aY λ_=>(#[]:Array ag))).update a (aY λ_=>(ix.map λi=>its.getD i b8).toArray)) (λb u n e=>(c0 _ _ _ _ n).trans e) ⟨by rw [af,hp.length_eq,br];exact aF (by omega:its.length<=1000) ⋯,_,n',uR rv ix,eo⟩
    refine k a _ _ _ J3 hHa j5 (λb o e=>?_) ⟨ix,by rw [<- hlen];exact hp,rfl,hg⟩
    rw [j6 (j1 e hHa),j6 (j1 e hHk)]
    exact sm _ _ e
   unfold ksk_end
   dsimp only
   simp only [cJ,if_false]
   by_cases h2:its.toArray.size<2
   ·rw [if_pos h2,if_pos h2]
    refine ae (wpAny_pure ?_)
    rw [mj]
    refine ae (wpAny_pure ?_)
    dsimp only
    rw [ar] at h2
    refine fin (aG its.length) _ (mO _) ?_ rfl ?_
    ·have hcase:its.length=0\/its.length=1:=∅
     rcases hcase with z | z
     ·rw [z];exact fM
     ·rw [z];exact fC _ _
    ·rw [vG]
     exact QC hlk'
   ·rw [if_neg h2,if_neg h2]
    rw [ar] at h2
    have tups:∃fs,KatTups s'.heap itk fs/\0<fs.length/\∀v∈fs,Looks (aD X.prog X.w) s'.heap (p0 v) (.type "int"):=by
     have go:∀(l:List ag),(∀i,i<l.length->∃q itq o m ns,l.getD i b8 = .ref q/\s'.heap.get? q=some o/\o.cls = .type "tuple" /\ o.data = .seq (oG itq) m/\cX itq ns/\ns≠[]) ->
       ∃fs,KatTups s'.heap l fs/\fs.length=l.length/\∀v∈fs,Looks (aD X.prog X.w) s'.heap (p0 v) (.type "int"):=by
      intro l
      induction l with
      | nil=>intro _;exact ⟨[],.nil,rfl,λ_ h=>nomatch h⟩
      | cons v l ih =>
       intro h
       obtain ⟨fs,t,e,lk⟩:=ih λi hi=>h (i+1) (by rw [bb];omega)
       obtain ⟨q,itq,o,m,ns,e1,e2,e3,e4,e5,e6⟩:=h 0 (by rw [bb];omega)
       have e1':v = .ref q:=e1
       subst e1'
       cases e5 with
       | nil=>exact absurd rfl e6
       | cons n t' r =>
        refine ⟨.int n t'::fs,KatTups.cons e2 e3 e4 (by simp) t,by rw [bb,bb,e],λv hv=>?_⟩
        rcases List.mem_cons.mp hv with rfl | hv
        ·exact sA rfl
        ·exact lk v hv
     obtain ⟨fs,t,e,lk⟩:=go itk λi hi=>by
      obtain ⟨q,itq,o,m,a1,a2,a3,a4,a5⟩:=keyAt i ∅
      exact ⟨q,itq,o,m,keyf i,a1,a2,a3,a4,a5,hne i ∅⟩
     exact ⟨fs,t,∅,lk⟩
    obtain ⟨fs,t,hfs,lk⟩:=tups
    refine ae (kat_kind (T:=.type "int") t hfs lk rfl ?_)
    rw [show (i6 "int" != i6 "tuple")=true from rfl]
    refine ae (ba (kat_run (ks:=itk) (vs:=its) (κ:=tuples' true) (G:=λp s2=>(qu its.length p/\(p.toList.map keyf).Pairwise ww.kle)/\s2=s') (Q:=λst' s2=>∃p:Array Nat,arrOf st'=p.map (sW (itk.toArray.zip its.toArray))/\rQ st'=none/\(qu its.length p/\(p.toList.map keyf).Pairwise ww.kle)/\s2=s')
     hlk' ∅ ∅ (λp st' s' a1 a2 a3 a4=>⟨p,a2,a3,a4⟩) (xa.wp (lt:=ltK ww keyf) (n:=its.length) (I:=λs2=>s2=s') (λi j C s2 hi hj hI hC=>?_) (λp s2 hp hI=>⟨hp,hI⟩) (kg ∅ λp' hP hS=>⟨hP,hS.pairwise hP.size⟩) rfl)) ?_ λ_ _ e=>e)
    ·subst hI
     obtain ⟨q,itq,o,m,a1,a2,a3,a4,a5⟩:=keyAt i hi
     obtain ⟨q',itq',o',m',b1,b2,b3,b4,b5⟩:=keyAt j hj
     unfold kas_ask
     rw [a1,b1]
     exact Z3 a2 a4 b2 b4 a5 b5 (hC _ rfl)
    ·rintro ⟨⟨⟩,st'⟩ s2 ⟨p,har,hf,⟨hP,hG⟩,rfl⟩
     dsimp only
     exact fin p.toList st' (by have:=Array.perm_iff_toList_perm.mp hP;simpa using this) hG hf (sX hlk' har)
end
end L2
end
section
namespace L2
open PySem.W
section
variable {prog:Program}{w:b9}{A:bj}{E:ag->Shared->Prop}{s:Shared}
theorem Xn (n:Nat):fe none none (-1) (n:Int)=((n:Int)-1,-1):=by
 unfold fe
 simp
theorem Ze (n:Nat):dj ((n:Int)-1) (-1) (-1)=n:=by
 unfold dj
 have h1:¬((-1:Int) > 0):=⋯
 simp only [h1,if_false]
 by_cases h:n=0
 ·subst h;simp
 ·rw [show (- -1:Int)=1 by decide]
  simp only [Int.ediv_one]
  split <;> omega
theorem uK {sl:Addr}{v3:ag}{n:Nat}{Q:Int×Int×Nat->Shared->Prop}(hs:s.heap.IsSliceOf sl .none .none v3) (pk:rE v3 (some (-1)))
  (h:Q ((n:Int)-1,-1,n) s):ay (aD prog w) A (iU (.ref sl) (pure (n:Int))) Q E s:=by
 obtain ⟨os,hos,hcs,hds⟩:=id hs
 unfold iU Builtin.Slice.sliceFields
 refine ae (ae (bM hos hds (x:=.none) rfl (ae (bM hos hds (x:=.none) rfl (ae (bM hos hds (x:=v3) rfl (wpAny_pure ?_)))))))
 refine ae (HT.slicePart_ pk ?_)
 show ay _ _ (if ((-1:Int) == 0)=true then _ else _) _ _ s
 rw [if_neg ⋯]
 refine ae (HT.slicePart_ .none (ae (HT.slicePart_ .none (ae (wpAny_pure ?_)))))
 show ay _ _ (match fe none none (-1) (n:Int) with | (lo,hi)=>pure (lo,(-1:Int),dj lo hi (-1))) _ _ s
 rw [Xn n]
 show ay _ _ (pure ((n:Int)-1,(-1:Int),dj ((n:Int)-1) (-1) (-1))) _ _ s
 rw [Ze]
 exact wpAny_pure h
theorem Vx (xs:Array ag):((aG xs.size).filterMap λ(m:Nat)=>xs[(((xs.size:Int)-1)+(m:Int) * -1).toNat]?).toArray=xs.toList.reverse.toArray:=by
 have e:((aG xs.size).filterMap λ(m:Nat)=>xs[(((xs.size:Int)-1)+(m:Int) * -1).toNat]?)=((aG xs.size).map λk=>xs.size-1-k).filterMap (xs[·]?):=by
  rw [List.filterMap_map]
  congr 1
  funext m
  show xs[(((xs.size:Int)-1)+(m:Int) * -1).toNat]? = xs[xs.size-1-m]?
  congr 1
  omega
 rw [e,krv_range,List.filterMap_reverse,krv_all]
theorem ua {t sl:Addr}{items:Array ag}{v3:ag}{Q:ag->Shared->Prop}(ht:IsTup s.heap t items) (hs:s.heap.IsSliceOf sl .none .none v3) (pk:rE v3 (some (-1)))
  (h:Q (.ref s.heap.objs.size) { s with heap:=s.heap.push { cls:=.type "tuple",data:=.seq items.toList.reverse.toArray } }) (hsz:items.size<=sizeLine):ay (aD prog w) A (lV (.ref t) (.ref sl)) Q E s:=by
 have htake:sizeOk (.seq items.toList.reverse.toArray):=by
  show items.toList.reverse.toArray.size<=sizeLine
  rw [ar,iG,cF]
  exact hsz
 obtain ⟨os,hos,hcs,hds⟩:=id hs
 have hTs:s.TypeIs (.ref sl) "slice":=⟨os,hos,hcs⟩
 unfold lV
 try with_reducible refine bP ?_
 first | refine ae (wpAny_pure ?_) | skip
 refine ae (wpAny_sequenceKey ht.typeIs ⋯ ?_)
 refine ae (cP (name:=aj "__getitem__") ht.typeIs fY
  (d8 fY ht.typeIs entry_tuple_getitem ?_ (args_tuple_getitem _ _)))
 show ay _ _ (Builtin.Tuple.tupleItemsOf (.ref t) >>= _) _ _ s
 refine ae (tupleItemsOf_ ht ?_)
 refine ae (iI hTs ?_)
 rw [if_pos ⋯]
 refine ae (uK hs pk ?_)
 show ay _ _ (if (((items.size:Int)-1) == 0 && (-1:Int) == 1 && items.size == items.size)=true then _ else _) _ _ s
 rw [if_neg (by simp),Vx]
 first
  | exact ae (m:=dC _) (c9 (wpAny_pure ⟨_,rfl,wpAny_pure h⟩) htake)
  | exact ae (m:=dC _) (c9 (ae (wpAny_pure (wpAny_pure ⟨_,rfl,wpAny_pure h⟩))) htake)
  | exact ae (ae (m:=dC _) (c9 (wpAny_pure (wpAny_pure ⟨_,rfl,wpAny_pure h⟩)) htake))
  | exact ae (ae (m:=dC _) (c9 (wpAny_pure ⟨_,rfl,wpAny_pure h⟩) htake))
end
section
variable {X:Cx}{e:Expr}{te:TE}{pos p2 p3 p4:Pos}{j3:Nat}
noncomputable def GL (K:ah) (te:TE):TE:=λσ H Q=>te σ H λx H2=>∃a xs,x = .ref a/\SqT K H2 a xs/\New H2 (.tup xs.reverse) Q
noncomputable def Ek (K:ah) (te:TE):TE:=λσ H Q=>te σ H λx H2=>∃a xs,x = .ref a/\SqL K H2 a xs/\New H2 (.lst xs.reverse) Q
theorem UN (K:ah) (he:PE X e te) (hK:X.K=K:=by rfl):PE X (.Subscript e (.Slice none none (some (.UnaryOp .USub (.Constant (.int 1) j3 p3) p4)) p2) pos) (GL K te):=by
 subst hK
 intro pins s σ H Q I h
 refine lW (thn (he pins s σ H _ I h) λv s1 ⟨x,H1,I1,r1,q1⟩=>?_)
 refine pI ?_
 rw [lx]
 refine wpAny_pure ?_
 refine wpAny_pure ?_
 rw [nu]
 obtain ⟨a,xs,rfl,hx,q⟩:=q1
 refine thn (zX xJ j7 pins s1 σ H1 (λy H2=>y = .int (-1)/\H2=H1) I1 ⟨_,rfl,rfl,rfl⟩) λu s3 ⟨y,H3,I3,ry,ey,eH⟩=>?_
 subst ey eH
 obtain ⟨tk,rfl⟩:=ry
 cases r1
 have I4:Inv X pins σ H3 { s3 with heap:=s3.heap.push { cls:=.type "slice",data:=.fields #[.none,.none,.int (-1) tk] } }:=I3.kept (t':=s3.toks) λb ob q=>ai _ q
 obtain ⟨its,r,ht,hz⟩:=I4.tuple hx
 have hlen:its.toArray.size=xs.length:=by rw [ar];exact r.length.symm
 show ay (aD X.prog X.w) X.A (ia e (.Slice none none (some (.UnaryOp .USub (.Constant (.int 1) j3 p3) p4)) p2) (.ref a) (.ref s3.heap.objs.size)) (EP X pins σ Q) X.xe { s3 with heap:=s3.heap.push { cls:=.type "slice",data:=.fields #[.none,.none,.int (-1) tk] } }
 refine sQ (ops:=[.ref a,.ref s3.heap.objs.size]) ht.typeIs PyProof.Rows.slot_tuple_getitem.lookup ?_ (by with_unfolding_all rfl)
 refine ua ht (iR ..) (.int _ _) ?_ (by rw [hlen];exact hz)
 have hf:=I4.hok.fresh (aq _)
 refine ⟨.ref _,_,I4.laid (t':=s3.toks) (o:=.tup xs.reverse) (λb ob q=>ai _ q) (aq _) ?_,rfl,q.at _ hf⟩
 exact ⟨by rw [iG];exact hz,_,r.reverse,IsTup.new _ _⟩
theorem UW (K:ah) (he:PE X e te) (hK:X.K=K:=by rfl):PE X (.Subscript e (.Slice none none (some (.UnaryOp .USub (.Constant (.int 1) j3 p3) p4)) p2) pos) (Ek K te):=by
 subst hK
 intro pins s σ H Q I h
 refine lW (thn (he pins s σ H _ I h) λv s1 ⟨x,H1,I1,r1,q1⟩=>?_)
 refine pI ?_
 rw [lx]
 refine wpAny_pure ?_
 refine wpAny_pure ?_
 rw [nu]
 obtain ⟨a,xs,rfl,hx,q⟩:=q1
 refine thn (zX xJ j7 pins s1 σ H1 (λy H2=>y = .int (-1)/\H2=H1) I1 ⟨_,rfl,rfl,rfl⟩) λu s3 ⟨y,H3,I3,ry,ey,eH⟩=>?_
 subst ey eH
 obtain ⟨tk,rfl⟩:=ry
 cases r1
 have I4:Inv X pins σ H3 { s3 with heap:=s3.heap.push { cls:=.type "slice",data:=.fields #[.none,.none,.int (-1) tk] } }:=I3.kept (t':=s3.toks) λb ob q=>ai _ q
 obtain ⟨its,r,ht,hz⟩:=I4.list hx
 have hlen:its.length=xs.length:=r.length.symm
 show ay (aD X.prog X.w) X.A (ia e (.Slice none none (some (.UnaryOp .USub (.Constant (.int 1) j3 p3) p4)) p2) (.ref a) (.ref s3.heap.objs.size)) (EP X pins σ Q) X.xe { s3 with heap:=s3.heap.push { cls:=.type "slice",data:=.fields #[.none,.none,.int (-1) tk] } }
 refine sQ (ops:=[.ref a,.ref s3.heap.objs.size]) ht.isList.typeIs slot_list_getitem.lookup ?_ (by with_unfolding_all rfl)
 refine ly ht.isList (iR ..) .none .none (.int _ _) ⋯ ?_ (by rw [ar];omega)
 rw [krv_pick]
 have hf:=I4.hok.fresh (aq _)
 refine ⟨.ref _,_,I4.laid (t':=s3.toks) (o:=.lst xs.reverse) (λb ob q=>ai _ q) (aq _) ?_,rfl,q.at _ hf⟩
 exact ⟨by rw [iG];exact hz,_,0,r.reverse,az _ rfl⟩
end
theorem SqL.extT {K:ah}{Pt a:Addr}{H H':Hp}{xs:List V}{ps:Array ag}(hp:H Pt=some (.tbl ps)) (x:Ext Pt H H') (h:SqL K H a xs):SqL K H' a xs:=by
 rcases h with (h | ⟨o,h⟩) | h
 ·exact .inl (.inl (x _ _ h (ji h hp (by intro z;cases z))))
 ·exact .inl (.inr ⟨o,x _ _ h (ji h hp (by intro z;cases z))⟩)
 ·exact .inr h
section
variable {X:Cx}{e body:Expr}{ta:TA}{tb:TE}{params:Arguments}{scope:Scope}{lpos kpos p pos:Pos}{N:List Str}{x:Str}{c Pt:Addr}{k:Nat}
noncomputable def Gp (K:ah) (Pt:Addr) (lpos:Pos) (qual:Str) (N:List Str) (ta:TA) (tb:TE):TE:=λσ H Q=>ta σ H λxs H1=>Tab H1 Pt lpos qual/\∃(p:Addr) (vs:List V) (keyf:Nat->List Int),xs=[.ref p]/\SqL K H1 p vs/\vs.length<64/\(∀i,i<vs.length->keyf i≠[]) /\
 (∀H2,Ext Pt H1 H2->∀i v,vs[i]? = some v->tb (start N [v]) H2 λkv H3=>jn H2 H3/\∃q,kv = .ref q/\H3 q=some (.tup ((keyf i).map V.int))) /\
 ∀l H2 out,H1 l=none->H2 l=some (.lst out)->Ext Pt H1 H2->Tab H2 Pt lpos qual->ui ww keyf vs out->Q (.ref l) H2
theorem XX (hg:Gl X "sorted") (hm:X.mg "sorted" = none) (ha:PA X [e] ta) (hcode:X.env.code = .ref c) (CH:CodeHd X.base c Pt) (hB:Bm X.mg X.base) (hr:Room (k+3) X.A) (S:FnScope N [x] scope)
  (hb:∀pm c ctv u,cw (uj (X.env.qual ++ "<lambda>") params body scope pm c ctv) ⟨[u],[]⟩=pure [(x,u)])
  (hbody:∀f c' s H,PE (vW CX0 X.prog X.w X.K X.mg X.base N (X.env.qual ++ "<lambda>") scope f (.ref c') X.A.in1.in1 X.stack s H E0).nox body tb)
  (hcl:nN scope X.env=pure []:=by rfl) (hdef:defaultsOf params X.env=([],[]):=by rfl)
  (he:cH pos (aO [e] X.env)=(false,eval e X.env)::cH pos (aO [] X.env):=by rfl) (hplain:(cH pos (aO [e] X.env)).any (·.1)=false:=by rfl) :
  PE X (.Call (.Name "sorted" p) [e] [⟨some (aj "key"),.Lambda params body scope lpos,kpos⟩] pos) (Gp X.K Pt lpos (X.env.qual ++ "<lambda>") N ta tb):=by
 intro pins s σ H Q I h
 refine de (yq I hg hm pM ?_ ⋯ ⋯)
 refine callWith_kw (thn (ha pos pins s σ H _ I h) λus s1 ⟨vs,H1,I1,r,q⟩=>?_) he hplain
 show ay _ _ (evalAll ((do let v <- eval (.Lambda params body scope lpos) X.env;eY pos;pure v)::[])) _ _ s1
 obtain ⟨T,a,xs,keyf,e1,hx,h64,hne,hkey,hq⟩:=q
 subst e1
 obtain ⟨u0,rfl,ru⟩:=yV r
 cases ru
 obtain ⟨ps0,hPt⟩:=T.ne
 refine wpAny_evalAll_cons (ae (Vs I1 hcode CH hB hcl hdef T λf H2 s2 pm c' ctv I2 hf hf2 hc2 X2 T2=>ae (cY (wpAny_pure (wpAny_evalAll_nil ?_)))))
 show ay _ _ (call (.builtin "sorted") [.ref a] [(aj "key",.ref f)]) _ _ s2
 refine QJ I2 (SqL.extT hPt X2 hx) h64 hne (λi v hv pins' s' H' u I' sm ru=>?_) λl H3 out s' I3 hl hl3 sm hs=>?_
 ·have X3:Ext Pt H1 H':=X2.trans (Ext.of_same sm)
  obtain ⟨ho,_⟩:=I'.hok f _ (sm _ _ hf2)
  obtain ⟨hcd,_⟩:=I'.hok c' _ (sm _ _ hc2)
  refine lT (dz (UV (k:=k) ho hcd S (hr.in1.in1) I'.env0.in1.in1 hb ru (hbody f c' s' H') (hkey H' X3 i v hv)) λr s'' hq=>?_)
  cases r with
  | error e=>exact bC hq
  | ok fl =>
   cases fl with
   | ret u=>exact I'.after hq
   | next=>exact bC hq
   | brk=>exact bC hq
   | cont=>exact bC hq
 ·exact ⟨.ref l,H3,I3,rfl,hq l H3 out (X2.free hl (λz=>by rw [z] at hl;obtain ⟨p2,z2⟩:=T2.ne;rw [z2] at hl;cases hl)) hl3 (X2.trans (Ext.of_same sm)) (T2.same sm) hs⟩
end
end L2
end
section
namespace L2
open PySem.W
theorem Ym {P:Program}{w:b9}{K:ah}{mg mb:Str->Option ag}{k:Nat}{fa a c Pt:Addr}{fd:FuncData}{x:Str}{sp:Sp}{s₁:Shared}{vs:List ag}{ns:List Int}
  (KX:K.In s₁.heap) (hns:s₁.heap.Ns mainGlobals mg) (hb:s₁.heap.Ns lR mb) (hbb:∀x:Str,x ≠ "__name__" -> mb x=fF x) (hlim:s₁.heap.NoLimit) (hg:s₁.gens = #[])
  (ha:s₁.heap.get? a=some { cls:=.type "list",data:=.seq vs.toArray }) (hi:cX vs ns) (hl:ns.length<=sizeLine) (hr:Room k n6)
  (hPt:s₁.heap.get? Pt=some (rf #[])) (hKP:K.lookup Pt=none) (CH:CodeHd s₁.heap c Pt) (hB:Bm mg s₁.heap)
  (F:∀base:Heap,K.In base->base.Ns mainGlobals mg->Bm mg base->FnOk P w K mg base CX0 k fa fd [x] sp) (hbind:∀(s:Shared) (u:ag),pU s fd ⟨[u],[]⟩ [(x,u)])
  (hsp:∀H:Hp,SqL K H a (ns.map V.int)->H Pt=some (.tbl #[])->sp [.ref a] H (λv _=>v = .bl true) λ_ _ _=>False) :
  cO (aD P w) n6 (.call (.ref fa) ⟨[.ref a],[]⟩) (λr s'=>r = .ok (.ret (.bool true))/\OldK s₁.heap s'.heap/\s'.os=s₁.os/\i9 s'.gens) s₁:=by
 have rv:=uY hi
 have lenV:=hi.length
 have core:∀H:Hp,H Pt=some (.tbl #[])->(∀b,b≠Pt->H b=none\/∃o xs,H b=some (.frz o (.lst xs)))->SqL K H a (ns.map V.int)->HOk P w H s₁.heap->(∀b,H b≠none->b=a\/b=Pt)->(H a≠none->K.lookup a=none) ->
   cO (aD P w) n6 (.call (.ref fa) ⟨[.ref a],[]⟩) (λr s'=>r = .ok (.ret (.bool true))/\OldK s₁.heap s'.heap/\s'.os=s₁.os/\i9 s'.gens) s₁:=by
  intro H hP hO hS hok hA hK
  have base_of:∀{b:Addr} {o:Obj},s₁.heap.get? b=some o->H b=none->(gv s₁.heap H).get? b=some o:=λe n=>Vd e n
  have noA:∀{b:Addr} {o:Obj},s₁.heap.get? b=some o->(∀xs n,o.data≠.seq xs n)->(∀vs,o.data = .fields vs->o.cls≠.none)->H b=none:=λ{b o} e d1 d2=>by
   cases q:H b with
   | none=>rfl
   | some u =>
    rcases hA b (by rw [q];simp) with e' | e'
    ·subst e'
     rw [ha] at e;cases e
     exact absurd rfl (d1 _ _)
    ·subst e'
     rw [hPt] at e;cases e
     exact absurd rfl (d2 _ rfl)
  have noD:∀{b:Addr} {o:Obj} {es:Array DictEntry} {ep:Nat},s₁.heap.get? b=some o->o.data = .dict es ep->H b=none:=λ{b o es ep} e d =>
   noA e (λxs n z=>by rw [d] at z;cases z) (λvs z=>by rw [d] at z;cases z)
  have nsK:∀{b:Addr} {m:Str->Option ag},s₁.heap.Ns b m->(gv s₁.heap H).Ns b m:=λ{b m} ⟨o,es,ep,e,d,r⟩=>⟨o,es,ep,base_of e (noD e d),d,r⟩
  have hKb:K.In (gv s₁.heap H):=λb o e=>base_of (KX b o e) (by
   cases q:H b with
   | none=>rfl
   | some u =>
    rcases hA b (by rw [q];simp) with e' | e'
    ·subst e'
     rw [hK (by rw [q];simp)] at e;cases e
    ·subst e'
     rw [hKP] at e;cases e)
  have hBb:Bm mg (gv s₁.heap H):=by
   obtain ⟨bm,ob,b1,b2,b3,b4,b5,b6⟩:=hB
   exact ⟨bm,ob,b1,b2,base_of b3 (noA b3 (λxs n z=>by rw [b6] at z;cases z) λvs z=>by rw [b6] at z;cases z),b4,b5,b6⟩
  have hM:Mod K mg (gv s₁.heap H):=⟨hKb,nsK hns,⟨mb,nsK hb,hbb⟩,let ⟨mc,h1,h2⟩:=hlim;⟨mc,nsK h1,h2⟩⟩
  have e0:Env0 P w K mg (gv s₁.heap H) n6 [] s₁ H:=⟨rfl,hM,λb o e=>UU e,oi (YM _ _),trivial,λb hb=>absurd (show b∈([]:List Addr) from hb) (by simp),hok,.of_eq hg⟩
  refine dz ((F _ hKb (nsK hns) hBb).run n6 [] s₁ H ⟨[.ref a],[]⟩ [.ref a] [.ref a] _ _ hr e0 (hbind s₁ (.ref a)) (.cons rfl .nil) (hsp H hS hP)) λr s' h=>?_
  cases r with
  | error e=>exact bC h
  | ok fl =>
   cases fl with
   | next=>exact bC h
   | brk=>exact bC h
   | cont=>exact bC h
   | ret u =>
    obtain ⟨v,H',os,bare,un,hok',r',q⟩:=h
    have q':v = .bl true:=q
    subst q'
    obtain rfl:u=lQ true:=r'
    have kp:∀b o,b≠Pt->s₁.heap.get? b=some o->s'.heap.get? b=some o:=λb o hb e=>by
     cases q:H b with
     | none=>exact un.keep b o e q (by intro z;exact absurd (show b∈([]:List Addr) from z) (by simp)) (by simp)
     | some u =>
      rcases hO b hb with z | ⟨ob,xs,z⟩
      ·rw [q] at z;cases z
      ·have z2:=un.frzs b ob _ z
       obtain ⟨e1,_⟩:=hok b _ z
       obtain ⟨e2,_⟩:=hok' b _ z2
       rw [e] at e1;cases e1
       exact e2
    obtain ⟨more,hm⟩:=un.tbls Pt _ hP
    have hm':s'.heap.get? Pt=some { cls:=.none,data:=.fields (#[]++more) }:=hok' Pt _ hm
    refine ⟨rfl,⟨λb o e=>?_,λb o e=>?_⟩,os,bare⟩
    ·by_cases hb:b=Pt
     ·subst hb
      rw [hPt] at e;cases e
      exact .inr (.inl ⟨(CH.tab hPt).isCodeTable,rfl,#[],more,rfl,hm'⟩)
     ·exact .inl (kp b o hb e)
    ·by_cases hb:b=Pt
     ·subst hb;exact ⟨_,hm'⟩
     ·exact ⟨o,kp b o hb e⟩
 have haP:a≠Pt:=λz=>by rw [z,hPt] at ha;cases ha
 cases hk:K.lookup a with
 | some o =>
  have e:=KX a o hk
  rw [ha] at e
  cases e
  refine core (λb=>if b=Pt then some (.tbl #[]) else none) (if_pos rfl) (λb hb=>.inl (if_neg hb)) (.inr ⟨_,vs.toArray,_,hk,rfl,rfl,rfl,by rw [ar,lenV];exact hl,by simpa using rv⟩) (λb u z=>?_) (λb z=>?_) λz=>absurd (if_neg haP) z
  ·by_cases hb:b=Pt
   ·have z':=(if_pos hb).symm.trans z
    cases z'
    subst hb
    exact hPt
   ·have z':=(if_neg hb).symm.trans z
    cases z'
  ·by_cases hb:b=Pt
   ·exact .inr hb
   ·exact absurd (if_neg hb) z
 | none =>
  refine core (λb=>if b=Pt then some (.tbl #[]) else if b=a then some (.frz { cls:=.type "list",data:=.seq vs.toArray } (.lst (ns.map V.int))) else none) (if_pos rfl) (λb hb=>?_)
   (.inl (.inr ⟨{ cls:=.type "list",data:=.seq vs.toArray },(if_neg haP).trans (if_pos rfl)⟩)) (λb u z=>?_) (λb z=>?_) λ_=>hk
  ·by_cases hb2:b=a
   ·exact .inr ⟨_,_,(if_neg hb).trans (if_pos hb2)⟩
   ·exact .inl ((if_neg hb).trans (if_neg hb2))
  ·by_cases hb:b=Pt
   ·have z':=(if_pos hb).symm.trans z
    cases z'
    subst hb
    exact hPt
   ·by_cases hb2:b=a
    ·have z':=((if_neg hb).trans (if_pos hb2)).symm.trans z
     cases z'
     subst hb2
     exact ⟨ha,by rw [af];exact hl,vs,_,rv,ha⟩
    ·have z':=((if_neg hb).trans (if_neg hb2)).symm.trans z
     cases z'
  ·by_cases hb:b=Pt
   ·exact .inr hb
   ·by_cases hb2:b=a
    ·exact .inl hb2
    ·exact absurd ((if_neg hb).trans (if_neg hb2)) z
noncomputable def Xr (K:ah) (Pt:Addr):Sp:=λvs H Q _=>∃(a:Addr) (ns:List Int),vs=[.ref a]/\SqL K H a (ns.map V.int)/\ns.length<=63/\H Pt=some (.tbl #[])/\∀H',Q (.bl true) H'
theorem UX {l:pQ}{q:Program}{loose:List Str}{XP:(Str->Option ag)->Heap->Prop}{YP:b9->Heap->Prop}{d:DefRec}{K:pX->ah}(k:Nat) (c Pt:Addr) (hr:Room k n6) (hn:l.most=some 63) (hdf:d.params.defaults=[])
  (hY:∀(w:b9) (h:Heap),YP w h->(K w.params).In h/\h.get? Pt=some (rf #[])) (hKP:∀p:pX,(K p).lookup Pt=none) (hC:∀p:pX,codeHdIn (K p) c Pt=true)
  (F:∀(w:b9) (mg:Str->Option ag) (fa:Addr) (h:Heap),(K w.params).In h->h.Ns mainGlobals mg->mg d.name=some (.ref fa) ->
   ∃fd:FuncData,(∀(s:Shared) (u:ag),pU s fd ⟨[u],[]⟩ [("_law_script",u)])/\∀base:Heap,(K w.params).In base->base.Ns mainGlobals mg->Bm mg base->FnOk l.prog w (K w.params) mg base CX0 k fa fd ["_law_script"] (Xr (K w.params) Pt)) :
  PySem.W.WalkO q loose XP YP l.row.toRowW d [] (λf vs=>PySem.call f vs):=by
 refine Att.attach_call hn hdf λw s₀ s₁ mg mb fa o pm cd doc a vs ns G Y ho hd hcd hmg hobj hints hlen hg=>?_
 obtain ⟨KX,hT⟩:=hY w _ Y
 obtain ⟨fd,hb,hF⟩:=F w mg fa _ KX G.T.g hmg
 exact Ym (c:=c) KX G.T.g G.T.b G.T.builtins G.T.nolimit hg hobj hints (aF hlen ⋯) hr hT (hKP w.params) (codeHd_of_K KX (hC w.params)) G.T.bmain hF hb λH hS hP=>⟨a,ns,rfl,hS,hlen,hP,λ_=>rfl⟩
theorem Fun.okC {P:Program}{w:b9}{K:ah}{mg:Str->Option ag}{base:Heap}{x qual:Str}{st:Stmt}{f c:Addr}{oc:ag}{od an:Option Addr}{osl:Array (Option ag)}{kV doc pm ct:ag}{N ps:List Str}{k:Nat}{sp:Sp}
  (l:K.lookup f=some ⟨oc,od,.func (bD x qual (qg st) (jT st) (j8 st) .none kV doc pm an (.ref c) ct),osl⟩) (cd:cx K (.ref c) qual=true) (S:FnScope N ps (j8 st)) (len:∀vs H Q E,sp vs H Q E->vs.length=ps.length)
  (hbody:∀(A:bj) (outer:List Env) (s:Shared) (H:Hp) (vs:List V) (Q:VK) (E:XK),Room k (A.deeper (lu qual (j8 st) s.heap.objs.size f (.ref c)))->sp vs H Q E ->
   ∃t,PSs (vW CX0 P w K mg base N qual (j8 st) f (.ref c) A outer s H E).nox (jT st) t/\t { nx:=λ_ H'=>Q .non H',rt:=Q } (start N vs) H) :
  FnOk P w K mg base CX0 (k+1) f (bD x qual (qg st) (jT st) (j8 st) .none kV doc pm an (.ref c) ct) ps sp:=by
 refine Vu l cd S len λA outer s H vs Q E hr hsp=>?_
 obtain ⟨t,h,q⟩:=hbody A outer s H vs Q E hr hsp
 exact ⟨t,h.nox,q⟩
theorem Cal.mkC {P:Program}{w:b9}{K:ah}{mg:Str->Option ag}{base:Heap}{k:Nat}{x:Str}{ps:List Str}{sp:Sp}{st:Stmt}{h:Heap}{f c:Addr}{oc:ag}{od an:Option Addr}{osl:Array (Option ag)}{kV doc pm ct:ag}
  (X:K.In h) (G:h.Ns mainGlobals mg) (a:aU K mainGlobals x=some (some (.ref f)))
  (l:K.lookup f=some ⟨oc,od,.func (bD x x (qg st) (jT st) (j8 st) .none kV doc pm an (.ref c) ct),osl⟩) (cd:cx K (.ref c) x=true) (k':bV K (.ref f)=true)
  (hb:∀(kV doc pm:ag) (an:Option Addr) (cdv ct:ag) (us:List ag),us.length=ps.length->cw (bD x x (qg st) (jT st) (j8 st) .none kV doc pm an cdv ct) ⟨us,[]⟩=pure (ps.zip us))
  (ok:FnOk P w K mg base CX0 k f (bD x x (qg st) (jT st) (j8 st) .none kV doc pm an (.ref c) ct) ps sp):Cal P w K mg base k x ps sp:=by
 have F:=vU (st:=st) l cd k'
 exact ⟨f,_,ok,F.binds hb,bw X G a,k'⟩
end L2
end
section
namespace L2
open PySem.W
noncomputable def Ite (K:ah) (a:Addr):It :=
 ⟨λi H=>∃xs x,SqL K H a xs/\xs[i]? = some x,λi H v H'=>∃t x,v = .ref t/\H t=none/\H'=upd H t (.tup [.int i,x])/\∀xs,SqL K H a xs->xs[i]? = some x,λi H=>∃xs,SqL K H a xs/\xs.length<=i⟩
theorem ZV {P:Program}{w:b9}{K:ah}{es:List Expr}{x1:Nat}{pos:Pos}(a e it:Addr) (hne:e≠it):Turn P w K (.Tuple es x1 pos) (Ite K a) [e,it] e (λi h=>∃old,IsEnum h e it i old/\h.IsListIter it a i) where
 mem:=by simp
 obj:=λi h ⟨old,st1,st2⟩ b hb=>by
  rcases List.mem_cons.mp hb with rfl | hb
  ·exact ⟨_,st1,λv z=>by
    have z':mG _=lJ v:=z
    cases z'⟩
  ·have e:b=it:=by simpa using hb
   subst e
   obtain ⟨o,e,c,d⟩:=st2
   exact ⟨o,e,λv z=>by rw [d] at z;cases z⟩
 keep:=λi h h' ⟨old,st1,st2⟩ k=>⟨old,k e (by simp) _ st1,st2.at λo z=>k it (by simp) o z⟩
 item:=by
  intro X hP hw hK hc i pins s σ H E I hf st hg
  subst hP hw hK
  obtain ⟨old,st1,st2⟩:=st
  obtain ⟨xs,x,hq,hx⟩:=hg
  obtain ⟨its,rv,p,hz⟩:=I.list hq
  obtain ⟨u,hu,ru⟩:=rv.get hx
  obtain ⟨f0,f1,f2,f3,f4,f5⟩:=hf e (by simp)
  obtain ⟨g0,g1,g2,g3,g4,g5⟩:=hf it (by simp)
  have hn:H s.heap.objs.size=none:=I.hok.fresh (aq _)
  refine wpAny_pyNext_enum_item st1 st2 p.isList (x:=u) (by simpa using hu) hne λh' o1 o2 o3 o4 o5=>⟨_,rfl,?_⟩
  refine wpAny_letOwnedTupleGo_enum o1 λh2 q1 sb=>?_
  have hel:e<s.heap.objs.size:=aw st1
  have kk:∀b o,b≠e->b≠it->s.heap.get? b=some o->h2.get? b=some o:=λb o n1 n2 z=>(sb.2 b n1).trans (o5 b o n1 n2 z)
  have et:h2.get? s.heap.objs.size=some { cls:=.type "tuple",data:=.seq #[.int i s.toks,u] }:=(sb.2 _ (cW hel)).trans o3
  have tne:∀b o,H b=some o->b≠e/\b≠it/\b≠s.heap.objs.size:=λb o q=>⟨λz=>(by rw [z,f0] at q;cases q),λz=>(by rw [z,g0] at q;cases q),λz=>(by rw [z,hn] at q;cases q)⟩
  have getF:∀{b:Addr} {o:HO},H b=some o->upd H s.heap.objs.size (.tup [.int i,x]) b=some o:=λ{b o} q=>by rw [j6 (tne b o q).2.2];exact q
  have I1:Inv X pins σ (upd H s.heap.objs.size (.tup [.int i,x])) { s with heap:=h2,toks:=s.toks+1 }:=by
   refine I.step (g':=s.gens) (d':=s.drawn) (ch:=[e,it]) (λb hb=>?_) (λb o _ _ hc z _=>kk b o (λy=>hc (by simp [y])) (λy=>hc (by simp [y])) z) (λb o _ _ hc z _=>⟨o.slots,kk b o (λy=>hc (by simp [y])) (λy=>hc (by simp [y])) z⟩)
    (λb o hc z n=>by rw [j6 (aA (aw z))];exact n) (λb o hc z=>⟨o,kk b o (λy=>hc (by simp [y])) (λy=>hc (by simp [y])) z⟩) (λ_ _ q=>getF q) (λ_ _ _ q=>getF q) (λb ps q=>⟨#[],by rw [getF q];simp⟩) (λm hm=>?_) (λb v q=>?_) I.bare
   ·rcases List.mem_cons.mp hb with rfl | hb
    ·exact ⟨f3,f1,f4,f5⟩
    ·have e:b=it:=by simpa using hb
     subst e
     exact ⟨g3,g1,g4,g5⟩
   ·obtain ⟨o,es,ep,ho,r⟩:=hm
    exact ⟨o,es,ep,kk _ o (cj f1) (cj g1) ho,r⟩
   ·by_cases hb:b=s.heap.objs.size
    ·subst hb
     rw [j5] at q;cases q
     exact ⟨by show 2<=sizeLine;decide,[.int i s.toks,u],.cons ⟨_,rfl⟩ (.cons ru .nil),⟨_,et,rfl,0,rfl⟩⟩
    ·rw [j6 hb] at q
     refine (I.hok b v q).stay (λc o hc z=>kk c o ?_ ?_ z) (λ_ z=>getF z) λ_ _ z=>getF z
     ·rcases hc with z | z
      ·rw [z];exact (tne b v q).1
      ·exact (tne c _ z).1
     ·rcases hc with z | z
      ·rw [z];exact (tne b v q).2.1
      ·exact (tne c _ z).2.1
  have st2':h2.IsListIter it a (i+1):=o2.at λo z=>(sb.2 it (cj hne)).trans z
  refine ⟨.ref s.heap.objs.size,_,I1,rfl,⟨_,x,rfl,hn,rfl,λys hy=>by rw [I.list_inj hy hq];exact hx⟩,⟨u,?_,st2'⟩,λb hb=>?_⟩
  ·have:((i+1:Nat):Int)=(i:Int)+1:=by push_cast;rfl
   rw [this]
   exact q1
  ·rcases List.mem_cons.mp hb with rfl | hb
   ·rw [j6 (aA hel)];exact f0
   ·have e:b=it:=by simpa using hb
    subst e
    obtain ⟨o,z,_⟩:=st2
    rw [j6 (aA (aw z))];exact g0
 done:=by
  intro X hP hw hK hc i pins s σ H E I hf st hg
  subst hP hw hK
  obtain ⟨old,st1,st2⟩:=st
  obtain ⟨xs,hq,hx⟩:=hg
  obtain ⟨its,rv,p,hz⟩:=I.list hq
  obtain ⟨g0,g1,g2,g3,g4,g5⟩:=hf it (by simp)
  have hl:=rv.length
  exact wpAny_pyNext_enum_end (I.ok.hd hc) st1 st2 p.isList (by simp;omega) λh' eb=>⟨rfl,I.turned (t':=s.toks) (λb o hb e=>eb b o hb e) g0 g1 g3 g4 g5⟩
 self:=λ_ _ _ _ _ ⟨old,st1,_⟩ h=>oH st1 h
section
variable {X:Cx}
noncomputable def Ej (K:ah) (ta:TA):TI:=λσ H R=>ta σ H λvs H1=>∃a,vs=[.ref a]/\(∃xs,SqL K H1 a xs)/\R (Ite K a) H1
theorem JM {es:List Expr}{x1:Nat}{tpos:Pos}{l:Expr}{ta:TA}{p pos:Pos}(K:ah) (hg:Gl X "enumerate") (hm:X.mg "enumerate" = none) (ha:PA X [l] ta) (hs:aO [l] X.env=[(false,eval l X.env)]:=by rfl) (hK:X.K=K:=by rfl) :
  PI X (.Tuple es x1 tpos) (.Call (.Name "enumerate" p) [l] [] pos) (Ej K ta):=by
 subst hK
 intro pins s σ H R I h
 refine t7 (yq I hg hm boot_enumerate (c3 (thn (ha pos pins s σ H _ I h) λus s1 ⟨vs,H1,I1,r1,q1⟩=>?_) hs rfl))
 obtain ⟨a,e,⟨xs,hq⟩,q⟩:=q1
 subst e
 obtain ⟨u,rfl,ru⟩:=yV r1
 cases ru
 obtain ⟨its,rv,pl,hz⟩:=I1.list hq
 refine call_enumerate_list pl.isList λh' i1 i2 i3 kk=>?_
 refine oH i1 ?_
 have I2:Inv X pins σ H1 { s1 with heap:=h',toks:=s1.toks }:=I1.kept kk
 refine ⟨_,[s1.heap.objs.size+1,s1.heap.objs.size],_,_,H1,rfl,I2,ZV a _ _ (by exact Nat.succ_ne_self _),⟨.none,i1,i2⟩,λb hb=>?_,q⟩
 rcases List.mem_cons.mp hb with rfl | hb
 ·exact I1.fpOk (fB _) (I1.hok.fresh (fB _))
 ·have e:b=s1.heap.objs.size:=by simpa using hb
  subst e
  exact I1.fpOk (aq _) (I1.hok.fresh (aq _))
end
theorem YH {K:ah}{a acc:Addr}{xs:List V}{g:TG}{ti:TT}{te:TE}{R:Hp->Prop}{σ:St}{H:Hp}(Pv:Nat->St->Hp->Prop) (h0:Pv 0 σ H) (hl:∀i σ H,i<=xs.length->Pv i σ H->SqL K H a xs)
  (hs:∀i x σ H t,xs[i]? = some x->Pv i σ H->H t=none->g (.ref t) σ (upd H t (.tup [.int i,x])) λσ3 H3=>ti σ3 H3 λok H4=>if ok=true then te σ3 H4 λv H5=>∃ys,H5 acc=some (.lst ys)/\ys.length<sizeLine/\Pv (i+1) σ3 (upd H5 acc (.lst (ys++[v]))) else Pv (i+1) σ3 H4)
  (hd:∀σ H,Pv xs.length σ H->R H) :
  ∃W:Nat->Nat->St->Hp->Prop,(∃m,W 0 m σ H)/\∀i m σ' H',W i m σ' H' ->
   ((Ite K a).stop i H'/\R H')\/((Ite K a).go i H'/\∃NX:St->Hp->Prop,(∀σ2 H2,NX σ2 H2->∃m',m'<m/\W (i+1) m' σ2 H2) /\
    ∀x H2,(Ite K a).yld i H' x H2->g x σ' H2 λσ3 H3=>ti σ3 H3 λok H4=>if ok=true then te σ3 H4 λv H5=>∃ys,H5 acc=some (.lst ys)/\ys.length<sizeLine/\NX σ3 (upd H5 acc (.lst (ys++[v]))) else NX σ3 H4):=by
 refine ⟨λi m σ H=>m=xs.length-i/\i<=xs.length/\Pv i σ H,⟨xs.length,by simp,aC _,h0⟩,?_⟩
 rintro i m σ H ⟨rfl,hi,p⟩
 have q:=hl i σ H hi p
 by_cases hlt:i<xs.length
 ·refine .inr ⟨⟨xs,xs[i],q,by simp [hlt]⟩,Pv (i+1),λσ' H' p'=>⟨xs.length-(i+1),∅,rfl,hlt,p'⟩,λv H' y=>?_⟩
  obtain ⟨t,x,rfl,hn,rfl,y⟩:=y
  exact hs i x σ H t (y xs q) p hn
 ·have e:i=xs.length:=∅
  subst e
  exact .inl ⟨⟨xs,q,aq _⟩,hd σ H p⟩
theorem Qa {K:ah}{a:Addr}{xs:List V}{g:TG}{tb:TS}{D:Ends}{σ:St}{H:Hp}(Pv:Nat->St->Hp->Prop) (h0:Pv 0 σ H) (hl:∀i σ H,i<=xs.length->Pv i σ H->SqL K H a xs)
  (hs:∀i x σ H t,xs[i]? = some x->Pv i σ H->H t=none->g (.ref t) σ (upd H t (.tup [.int i,x])) λσ2 H2=>tb { D with nx:=Pv (i+1),ct:=Pv (i+1),bk:=D.nx } σ2 H2) (hd:∀σ H,Pv xs.length σ H->D.nx σ H) :
  ∃W:Nat->Nat->St->Hp->Prop,(∃m,W 0 m σ H)/\∀i m σ H,W i m σ H ->
   ((Ite K a).stop i H/\D.nx σ H)\/((Ite K a).go i H/\∃N:St->Hp->Prop,(∀σ' H',N σ' H'->∃m',m'<m/\W (i+1) m' σ' H')/\∀x H',(Ite K a).yld i H x H'->g x σ H' λσ2 H2=>tb { D with nx:=N,ct:=N,bk:=D.nx } σ2 H2):=by
 refine ⟨λi m σ H=>m=xs.length-i/\i<=xs.length/\Pv i σ H,⟨xs.length,by simp,aC _,h0⟩,?_⟩
 rintro i m σ H ⟨rfl,hi,p⟩
 have q:=hl i σ H hi p
 by_cases hlt:i<xs.length
 ·refine .inr ⟨⟨xs,xs[i],q,by simp [hlt]⟩,Pv (i+1),λσ' H' p'=>⟨xs.length-(i+1),∅,rfl,hlt,p'⟩,λv H' y=>?_⟩
  obtain ⟨t,x,rfl,hn,rfl,y⟩:=y
  exact hs i x σ H t (y xs q) p hn
 ·have e:i=xs.length:=∅
  subst e
  exact .inl ⟨⟨xs,q,aq _⟩,hd σ H p⟩
end L2
end
section
namespace L2
open PySem.W
theorem gG:∀(l:List Int),(∀n∈l,0<=n/\n<=2 ^ 20)->0<=l.sum/\l.sum<=2 ^ 20*l.length
 | [],_=>by simp
 | n::l,h=>by
  have ih:=gG l λm hm=>h m (aE _ hm)
  have h0:=h n aI
  rw [nB,bb]
  constructor
  ·omega
  ·push_cast
   omega
section
variable {X:Cx}
theorem km (K:ah) (hc:X.calm=true) (hK:X.K=K:=by rfl):xc X (.builtin "sum") (λxs H Q=>∃(p:Addr) (ns:List Int),xs=[.ref p]/\SqL K H p (ns.map V.int)/\ns.length<=1000/\(∀n∈ns,0<=n/\n<=2 ^ 20)/\Q (.int ns.sum) H):=by
 subst hK
 intro pins s σ H xs us Q I r h
 obtain ⟨p,ns,rfl,hq,hl,hb,q⟩:=h
 obtain ⟨u,rfl,ru⟩:=yV r
 cases ru
 obtain ⟨its,rv,pl,hz⟩:=I.list hq
 have hI:=zj rv
 have hlen:=hI.length
 have hne:p≠s.heap.objs.size:=by
  obtain ⟨o,n,e,_⟩:=id pl
  exact aA (aw e)
 refine call_sum_walk (dw pl.isList ?_)
 refine ⟨s.heap.objs.size,_,_,_,_,_,λi=>ns.getD i 0,rfl,Walks.list (show (X.A.in1).handled=none from I.ok.hd hc) s.heap.objs.size p hne its.toArray,⟨⟨_,az _ rfl,rfl,rfl⟩,pl.isList.at λo e=>ai _ e⟩,?_,?_,?_,?_⟩
 ·intro b hb'
  have hps:p<s.heap.objs.size:=by
   obtain ⟨o,n,e,_⟩:=id pl
   exact aw e
  show b<(s.heap.push _).objs.size
  rw [cv]
  rcases List.mem_cons.mp hb' with rfl | hb'
  ·exact i7 _
  ·have e:b=p:=by simpa using hb'
   subst e
   exact cc hps
 ·intro i v hP
  have hP':its[i]? = some v:=by simpa using hP
  have hi:i<its.length:=(List.getElem?_eq_some_iff.mp hP').1
  obtain ⟨t,e⟩:=JS hI hi
  rw [e] at hP'
  refine ⟨t,?_⟩
  show v=lF (ns.getD i 0) t
  rw [ao,aa ∅]
  exact (aR hP').symm
 ·intro j hj
  have hj':j<ns.length:=by
   have:its.toArray.size=its.length:=by simp
   omega
  constructor
  ·show InLong (ns.getD j 0)
   rw [ao,aa hj']
   have:=hb _ (bY hj')
   show -(2 ^ 63)<=ns[j]/\ns[j]<2 ^ 63
   omega
  ·rw [preSum_getD]
   have:=gG (ns.take (j+1)) λn hn=>hb n (dA hn)
   have hl2:(ns.take (j+1)).length<=1000:=by rw [aJ];omega
   show -(2 ^ 63)<=_/\_<2 ^ 63
   omega
 ·intro h' tk t' hk
  rw [preSum_getD,bJ (by simp;omega)]
  refine ⟨.int ns.sum,H,I.kept (t':=tk) λb o eo=>hk b o (by
   intro z
   have:=List.mem_singleton.mp z
   subst this
   exact absurd (aw eo) (cq _)) (ai _ eo),⟨t',rfl⟩,q⟩
theorem zt (K:ah) (h:X.K=K:=by rfl):xc X (.type "tuple") (λxs H Q=>∃p ys,xs=[.ref p]/\SqL K H p ys/\New H (.tup ys) Q):=by
 subst h
 exact gj.weak λ_ _ _ ⟨p,ys,h1,h2,q⟩=>⟨p,ys,h1,.inl ⟨h2,q.at⟩⟩
end
end L2
end
section
namespace L2
open PySem.W
structure Nb2 (mg:Str->Option ag):Prop extends Nb mg where
 b_enumerate:mg "enumerate" = none
 b_sorted:mg "sorted" = none
 b_sum:mg "sum" = none
noncomputable abbrev Rch:=Int×List Int
noncomputable def tos (rs:List Rch):List Int:=rs.map (·.1)
noncomputable def xW (rs:List Rch) (r:Nat):Int:=(rs.getD r (-1,[])).1
noncomputable def zN (rs:List Rch) (r:Nat):List Int:=(rs.getD r (-1,[])).2
noncomputable def xI (i:Nat) (t:Int):Bool:=if i=0 then decide (t = -1) else decide (0<=t/\t<i)
noncomputable def okR (i:Nat) (r:Rch):Bool:=xI i r.1 && decide (1<=(r.2.length:Int)/\(r.2.length:Int)<=12) && r.2.all λx=>decide (0<=x/\x<=99)
noncomputable def uG (rs:List Rch):Bool:=(aG rs.length).all λi=>okR i (rs.getD i (-1,[]))
noncomputable def xq (rs:List Rch):Prop:=∀i,i<rs.length->xI i (xW rs i)=true
noncomputable def jQ (rs:List Rch) (h:Nat):Bool:=!decide ((h:Int)∈tos rs)
noncomputable def js (rs:List Rch):List Nat:=(aG rs.length).filter (jQ rs)
noncomputable def vx (rs:List Rch):Nat->Nat->List Int
 | 0,_=>[]
 | f+1,r=>(r:Int)::(if xW rs r<0 then [] else vx rs f (xW rs r).toNat)
noncomputable def qA (rs:List Rch) (r:Nat):List Int:=vx rs (r+1) r
noncomputable def jB (rs:List Rch) (way:List Int):Int:=(way.map λr=>((zN rs r.toNat).length:Int)).sum
noncomputable def zE (rs:List Rch):Bool:=decide (1<=(rs.length:Int)/\(rs.length:Int)<=8) && (uG rs && (decide (((js rs).length:Int)<=6) && (js rs).all λh=>decide (jB rs (qA rs h)<=30)))
theorem kU {i:Nat}{t:Int}(h:xI i t=true):t<i/\(-1<=t)/\(t<0->i=0):=by
 unfold xI at h
 by_cases hi:i=0
 ·rw [if_pos hi] at h
  have:=of_decide_eq_true h
  omega
 ·rw [if_neg hi] at h
  have:=of_decide_eq_true h
  omega
theorem Yv {i:Nat}{r:Rch}(h:okR i r=true):xI i r.1=true:=by
 unfold okR at h
 rw [bf,bf] at h
 exact h.1.1
theorem JI {rs:List Rch}(h:uG rs=true) {i:Nat}{r:Rch}(hr:rs[i]? = some r):okR i r=true:=by
 unfold uG at h
 rw [bI] at h
 have hi:=(List.getElem?_eq_some_iff.mp hr).1
 have:=h i (List.mem_range.mpr hi)
 rw [ao,hr] at this
 exact this
theorem qk {rs:List Rch}(h:uG rs=true):xq rs:=λi hi=>by
 have:=Yv (JI h (aa hi))
 unfold xW
 rw [ao,aa hi]
 exact this
theorem JO {rs:List Rch}{i:Nat}{r:Rch}(h:rs[i]? = some r):xW rs i=r.1:=by
 unfold xW
 rw [ao,h]
 rfl
theorem Jz {rs:List Rch}{i:Nat}{r:Rch}(h:rs[i]? = some r):zN rs i=r.2:=by
 unfold zN
 rw [ao,h]
 rfl
theorem xq.lt {rs:List Rch}(L:xq rs) {r:Nat}(hr:r<rs.length):xW rs r<r:=(kU (L r hr)).1
theorem Jc {rs:List Rch}(L:xq rs):∀(f g r:Nat),r<rs.length->r<f->r<g->vx rs f r=vx rs g r
 | 0,_,_,_,h,_=>∅
 | _+1,0,_,_,_,h=>∅
 | f+1,g+1,r,hr,h1,h2=>by
  unfold vx
  by_cases ht:xW rs r<0
  ·rw [if_pos ht,if_pos ht]
  ·rw [if_neg ht,if_neg ht]
   have hl:=L.lt hr
   rw [Jc L f g (xW rs r).toNat ∅ ∅ ∅]
theorem zI {rs:List Rch}(L:xq rs) {r:Nat}(hr:r<rs.length):qA rs r=(r:Int)::(if xW rs r<0 then [] else qA rs (xW rs r).toNat):=by
 unfold qA
 rw [vx]
 by_cases ht:xW rs r<0
 ·rw [if_pos ht,if_pos ht]
 ·rw [if_neg ht,if_neg ht]
  have hl:=L.lt hr
  rw [Jc L r ((xW rs r).toNat+1) (xW rs r).toNat ∅ ∅ ∅]
theorem Us {rs:List Rch}(r:Nat):qA rs r≠[]:=by unfold qA vx;exact λz=>nomatch z
theorem ut {rs:List Rch}(L:xq rs):∀(r:Nat),r<rs.length->(qA rs r).length<=r+1
 | r,hr=>by
  rw [zI L hr]
  by_cases ht:xW rs r<0
  ·rw [if_pos ht];simp
  ·rw [if_neg ht]
   have hl:=L.lt hr
   have:=ut L (xW rs r).toNat ∅
   rw [bb]
   omega
 termination_by r=>r
 decreasing_by omega
theorem xZ {rs:List Rch}(L:xq rs):∀(r:Nat),r<rs.length->∀x∈qA rs r,0<=x/\x<rs.length
 | r,hr,x,hx=>by
  rw [zI L hr] at hx
  rcases List.mem_cons.mp hx with rfl | hx
  ·omega
  ·by_cases ht:xW rs r<0
   ·rw [if_pos ht] at hx;cases hx
   ·rw [if_neg ht] at hx
    have hl:=L.lt hr
    exact xZ L (xW rs r).toNat ∅ x hx
 termination_by r=>r
 decreasing_by omega
theorem xx {rs:List Rch}{h:Nat}(hh:h∈js rs):h<rs.length:=by
 have:=(List.mem_filter.mp hh).1
 exact List.mem_range.mp this
theorem xi (rs:List Rch) (r:Int) (way:List Int):jB rs (r::way)=((zN rs r.toNat).length:Int)+jB rs way:=by
 unfold jB
 rw [aN,nB]
theorem U0 {α:Type}{p:α->Bool}{l l':List α}(h:l.Perm l'):l.all p=l'.all p:=by
 rw [dv,bI,bI]
 exact ⟨λz x hx=>z x (h.mem_iff.mpr hx),λz x hx=>z x (h.mem_iff.mp hx)⟩
noncomputable def qf (rs:List Rch) (ws:List (List Int)):Prop:=ws.Perm ((js rs).map (qA rs))/\(ws.map cB).Pairwise ww.kle
theorem qf.length {rs:List Rch}{ws:List (List Int)}(h:qf rs ws):ws.length=(js rs).length:=by rw [h.1.length_eq,af]
theorem qf.mem {rs:List Rch}{ws:List (List Int)}(h:qf rs ws) {w:List Int}(hw:w∈ws):∃x∈js rs,w=qA rs x:=by
 obtain ⟨x,hx,e⟩:=List.mem_map.mp (h.1.mem_iff.mp hw)
 exact ⟨x,hx,e.symm⟩
theorem qf.all {rs:List Rch}{ws:List (List Int)}(h:qf rs ws):(ws.map λw=>decide (jB rs w<=30)).all (λb=>b)=(js rs).all λx=>decide (jB rs (qA rs x)<=30):=by
 rw [fP,U0 h.1,fP]
 rfl
theorem yF {O:KeyOrd}:∀{l l':List O.α},l.Perm l'->l.Pairwise O.kle->l'.Pairwise O.kle->l=l'
 | [],l',h,_,_=>(List.nil_perm.mp h).symm
 | x::l,[],h,_,_=>by have:=h.length_eq;simp at this
 | x::l,y::l',h,h1,h2=>by
  have hx:=(List.pairwise_cons.mp h1)
  have hy:=(List.pairwise_cons.mp h2)
  have e:x=y:=by
   have m1:x∈y::l':=h.mem_iff.mp aI
   have m2:y∈x::l:=h.mem_iff.mpr aI
   rcases List.mem_cons.mp m1 with z | z
   ·exact z
   ·rcases List.mem_cons.mp m2 with z2 | z2
    ·exact z2.symm
    ·exact iF (hx.1 y z2) (hy.1 x z)
  subst e
  rw [yF (nW h) hx.2 hy.2]
theorem qf.unique {rs:List Rch}{ws ws':List (List Int)}(h:qf rs ws) (h':qf rs ws'):ws=ws':=by
 have p:(ws.map cB).Perm (ws'.map cB):=(h.1.trans h'.1.symm).map _
 have e:=yF (O:=ww) p h.2 h'.2
 have e2:=congrArg (rR cB) e
 rw [bS,bS,show (cB ∘ cB:List Int->List Int)=id from funext λx=>eR x,mQ,mQ] at e2
 exact e2
theorem Xl (rs:List Rch) (t:Int) (hs:List Int):tos (rs++[(t,hs)])=tos rs++[t]:=by unfold tos;rw [aB];rfl
theorem uD {rs:List Rch}{x d:Rch}{i:Nat}(h:i<rs.length):(rs++[x]).getD i d=rs.getD i d:=by
 rw [ao,ao,cI h]
theorem xw {rs:List Rch}{x d:Rch}:(rs++[x]).getD rs.length d=x:=by
 rw [ao,c5 (aq _),oI]
 rfl
theorem J8 {rs:List Rch}{x:Rch}(h:uG rs=true) (hx:okR rs.length x=true):uG (rs++[x])=true:=by
 unfold uG at h ⊢
 rw [bI] at h ⊢
 intro i hi
 have hi':i<rs.length+1:=by have:=List.mem_range.mp hi;rw [ak,bg] at this;exact this
 by_cases hlt:i<rs.length
 ·rw [uD hlt];exact h i (List.mem_range.mpr hlt)
 ·have e:i=rs.length:=∅
  subst e
  rw [xw];exact hx
theorem wO {rs:List Rch}{x:Rch}(L:xq rs):∀(f r:Nat),r<rs.length->vx (rs++[x]) f r=vx rs f r
 | 0,_,_=>rfl
 | f+1,r,hr=>by
  have e:xW (rs++[x]) r=xW rs r:=by unfold xW;rw [uD hr]
  unfold vx
  rw [e]
  by_cases ht:xW rs r<0
  ·rw [if_pos ht,if_pos ht]
  ·rw [if_neg ht,if_neg ht,wO L f _ (by have:=L.lt hr;omega)]
theorem vh {rs:List Rch}{x:Rch}(L:xq rs) {r:Nat}(hr:r<rs.length):qA (rs++[x]) r=qA rs r:=wO L _ r hr
theorem xX {rs:List Rch}{x:Rch}:∀(way:List Int),(∀r∈way,0<=r/\r<rs.length)->jB (rs++[x]) way=jB rs way
 | [],_=>rfl
 | r::way,h=>by
  have h0:=h r aI
  rw [xi,xi,xX way λy hy=>h y (aE _ hy)]
  congr 2
  unfold zN
  rw [uD ∅]
theorem XG {rs:List Rch}(L:xq rs) {t:Int}(h:t∈tos rs):t+1<rs.length:=by
 unfold tos at h
 obtain ⟨r,hr,rfl⟩:=List.mem_map.mp h
 obtain ⟨i,hi,e⟩:=List.mem_iff_getElem.mp hr
 have:=L.lt hi
 rw [JO (aa hi),e] at this
 omega
theorem XY {rs:List Rch}{t:Int}{hs:List Int}(L:xq rs) (h0:0<=t) (h1:t<rs.length) :
  (js (rs++[(t,hs)])).length=if t∈tos rs then (js rs).length+1 else (js rs).length:=by
 unfold js
 rw [ak,bg,ck,bK,ak]
 have e1:(fD (jQ (rs++[(t,hs)])) [rs.length]).length=1:=by
  have:jQ (rs++[(t,hs)]) rs.length=true:=by
   unfold jQ
   rw [Xl,decide_eq_false]
   ·rfl
   ·intro z
    rcases List.mem_append.mp z with z | z
    ·have:=XG L z;omega
    ·have:(rs.length:Int)=t:=by simpa using z
     omega
  simp [this]
 rw [e1]
 have e2:∀h,jQ (rs++[(t,hs)]) h=(jQ rs h && !decide ((h:Int)=t)):=λh=>by
  unfold jQ
  rw [Xl]
  by_cases a:(h:Int)∈tos rs
  ·rw [decide_eq_true (ie _ a),decide_eq_true a];rfl
  ·rw [decide_eq_false a]
   by_cases b:(h:Int)=t
   ·rw [decide_eq_true (aH _ (by simp [b])),decide_eq_true b];rfl
   ·rw [decide_eq_false (λz=>(List.mem_append.mp z).elim a λy=>b (by simpa using y)),decide_eq_false b];rfl
 have e3:fD (jQ (rs++[(t,hs)])) (aG rs.length)=fD (λh:Nat=>!decide ((h:Int)=t)) (fD (jQ rs) (aG rs.length)):=by
  rw [List.filter_filter]
  congr 1
  funext h
  rw [e2,Bool.and_comm]
 rw [e3]
 have nd:(fD (jQ rs) (aG rs.length)).Nodup:=List.Nodup.sublist List.filter_sublist lO
 generalize hl:fD (jQ rs) (aG rs.length)=l at nd
 have cnt:∀(l:List Nat),l.Nodup->(fD (λh:Nat=>!decide ((h:Int)=t)) l).length=if t.toNat∈l then l.length-1 else l.length:=by
  intro l
  induction l with
  | nil=>intro _;rfl
  | cons x l ih =>
   intro nd
   have nd':=List.nodup_cons.mp nd
   have ih:=ih nd'.2
   by_cases b:(x:Int)=t
   ·have hx:x=t.toNat:=∅
    rw [dN (by simp [b]),ih,if_neg (by rw [<- hx];exact nd'.1),if_pos (by rw [hx];exact aI)]
    simp
   ·have hx:t.toNat≠x:=∅
    rw [dO (by simp [b]),bb,ih]
    by_cases m:t.toNat∈l
    ·rw [if_pos m,if_pos (aE _ m),bb]
     have:0<l.length:=fQ m
     omega
    ·rw [if_neg m,if_neg (λz=>(List.mem_cons.mp z).elim hx m)]
     simp
 rw [cnt l nd]
 have hm:t.toNat∈l↔¬t∈tos rs:=by
  rw [<- hl,List.mem_filter,List.mem_range]
  unfold jQ
  have e:((t.toNat:Nat):Int)=t:=∅
  rw [e]
  constructor
  ·rintro ⟨_,z⟩ y
   rw [decide_eq_true y] at z
   cases z
  ·intro z
   exact ⟨∅,by rw [decide_eq_false z];rfl⟩
 by_cases m:t∈tos rs
 ·rw [if_pos m,if_neg (by rw [hm];exact λz=>z m)]
 ·rw [if_neg m,if_pos (by rw [hm];exact m)]
  have:0<l.length:=fQ (hm.mpr m)
  omega
structure Grown (rs:List Rch):Prop where
 ok:uG rs=true
 heads:(js rs).length<=6
 deep:∀i,i<rs.length->jB rs (qA rs i)<=30
theorem Grown.snoc {rs:List Rch}{t:Int}{hs:List Int}(G:Grown rs) (h0:0<=t) (h1:t<rs.length) (hx:okR rs.length (t,hs)=true) (hh:t∈tos rs->(js rs).length<6) (hd:jB rs (qA rs t.toNat)+hs.length<=30):Grown (rs++[(t,hs)]):=by
 have L:=qk G.ok
 have ok':=J8 G.ok hx
 refine ⟨ok',?_,λi hi=>?_⟩
 ·rw [XY L h0 h1]
  split
  ·rename_i m;have:=hh m;omega
  ·exact G.heads
 ·rw [ak,bg] at hi
  by_cases hlt:i<rs.length
  ·rw [vh L hlt,xX _ (xZ L i hlt)]
   exact G.deep i hlt
  ·have e:i=rs.length:=∅
   subst e
   have L':=qk ok'
   have et:xW (rs++[(t,hs)]) rs.length=t:=by unfold xW;rw [xw]
   have eh:zN (rs++[(t,hs)]) rs.length=hs:=by unfold zN;rw [xw]
   rw [zI L' (by rw [ak,bg];omega),xi,bE,eh,et,if_neg ∅,vh L ∅,xX _ (xZ L _ ∅)]
   omega
theorem Grown.good {rs:List Rch}(G:Grown rs) (h1:1<=rs.length) (h8:rs.length<=8):zE rs=true:=by
 unfold zE
 rw [decide_eq_true (show 1<=(rs.length:Int)/\(rs.length:Int)<=8 by omega),G.ok,decide_eq_true (show ((js rs).length:Int)<=6 by have:=G.heads;omega),eJ,eJ,eJ,bI]
 intro h hh
 exact decide_eq_true (G.deep h (xx hh))
theorem Grown.deep_snoc {rs:List Rch}{t:Int}{hs:List Int}(G:Grown rs) (h0:0<=t) (h1:t<rs.length) (hx:okR rs.length (t,hs)=true):jB (rs++[(t,hs)]) (qA (rs++[(t,hs)]) rs.length)=jB rs (qA rs t.toNat)+hs.length:=by
 have L:=qk G.ok
 have L':=qk (J8 G.ok hx)
 have et:xW (rs++[(t,hs)]) rs.length=t:=by unfold xW;rw [xw]
 have eh:zN (rs++[(t,hs)]) rs.length=hs:=by unfold zN;rw [xw]
 rw [zI L' (by rw [ak,bg];omega),xi,bE,eh,et,if_neg ∅,vh L ∅,xX _ (xZ L _ ∅)]
 omega
noncomputable def jj (H H':Hp):Prop:=∀p xs,H p=some (.tup xs)->H' p=some (.tup xs)
theorem jj.same {H H':Hp}(s:jn H H'):jj H H':=λ_ _ h=>s _ _ h
theorem jj.trans {H H1 H2:Hp}(a:jj H H1) (b:jj H1 H2):jj H H2:=λp xs h=>b p xs (a p xs h)
theorem jj.ext {b:Addr}{H H':Hp}(e:Ext b H H') (h:∀xs,H b≠some (.tup xs)):jj H H':=λp xs q=>e _ _ q λz=>h xs (z ▸ q)
theorem jj.lst {b:Addr}{H H':Hp}{xs:List V}(e:Ext b H H') (h:H b=some (.lst xs)):jj H H':=.ext e λys z=>by rw [h] at z;cases z
theorem jj.new {b:Addr}{H H':Hp}(e:Ext b H H') (h:H b=none):jj H H':=.ext e λys z=>by rw [h] at z;cases z
theorem jj.tbl {b:Addr}{H H':Hp}{ps:Array ag}(e:Ext b H H') (h:H b=some (.tbl ps)):jj H H':=.ext e λys z=>by rw [h] at z;cases z
noncomputable def Q3 (H:Hp) (v:V) (r:Rch):Prop:=∃p g,v=V.ref p/\H p=some (.tup [.int r.1,.ref g])/\H g=some (.tup (r.2.map V.int))
noncomputable def qc (H:Hp) (vs:List V) (rs:List Rch):Prop:=cG (Q3 H) vs rs
theorem Q3.keep {H H':Hp}{v:V}{r:Rch}(k:jj H H') (h:Q3 H v r):Q3 H' v r:=by
 obtain ⟨p,g,e,h1,h2⟩:=h
 exact ⟨p,g,e,k _ _ h1,k _ _ h2⟩
theorem qc.keep {H H':Hp}{vs:List V}{rs:List Rch}(k:jj H H') (h:qc H vs rs):qc H' vs rs:=Paired.mapP h λ_ _ z=>z.keep k
theorem qc.length {H:Hp}{vs:List V}{rs:List Rch}(h:qc H vs rs):vs.length=rs.length:=aK h
theorem qc.get {H:Hp}{vs:List V}{rs:List Rch}{i:Nat}{v:V}(h:qc H vs rs) (e:vs[i]? = some v):∃r,rs[i]? = some r/\Q3 H v r:=Paired.get h e
theorem qc.at {H:Hp}{vs:List V}{rs:List Rch}{i:Nat}{r:Rch}(h:qc H vs rs) (e:rs[i]? = some r):∃v,vs[i]? = some v/\Q3 H v r:=by
 have hi:i<vs.length:=by rw [h.length];exact (List.getElem?_eq_some_iff.mp e).1
 obtain ⟨r',e2,q⟩:=h.get (aa hi)
 rw [e] at e2
 cases e2
 exact ⟨_,aa hi,q⟩
theorem qc.snoc {H:Hp}{vs:List V}{rs:List Rch}{v:V}{r:Rch}(h:qc H vs rs) (q:Q3 H v r):qc H (vs++[v]) (rs++[r]):=bL h q
noncomputable def yb (H:Hp) (vs:List V) (ws:List (List Int)):Prop:=cG (λv (w:List Int)=>∃a,v=V.ref a/\H a=some (.tup (w.map V.int))) vs ws
theorem yb.keep {H H':Hp}{vs:List V}{ws:List (List Int)}(k:jj H H') (h:yb H vs ws):yb H' vs ws:=Paired.mapP h λ_ _ ⟨a,e,q⟩=>⟨a,e,k _ _ q⟩
theorem yb.length {H:Hp}{vs:List V}{ws:List (List Int)}(h:yb H vs ws):vs.length=ws.length:=aK h
theorem yS (x:Int) (l:List Int):inV (.int x) (l.map V.int)=decide (x∈l):=by
 unfold inV
 induction l with
 | nil=>rfl
 | cons y l ih =>
  rw [aN,fg,ih]
  by_cases e:x=y
  ·subst e
   rw [decide_eq_true (aI (a:=x))]
   simp [eqV]
  ·by_cases m:x∈l
   ·rw [decide_eq_true m,decide_eq_true (aE _ m),Bool.or_true]
   ·rw [decide_eq_false m,decide_eq_false (λz=>(List.mem_cons.mp z).elim e m),Bool.or_false]
    simp [eqV]
    exact λz=>e z.symm
theorem ya (l:List Int):(l.map V.int).all uo=true:=by
 rw [fP,bI]
 intro x _
 rfl
end L2
end
section
namespace L2
open PySem.W
section
variable {prog:Program}{w:b9}{A:bj}{E:ag->Shared->Prop}{s:Shared}
end
end L2
end
section
namespace L2
open PySem.W
section
variable {X:Cx}
end
end L2
end
section
namespace L2
open PySem.W
theorem UR {X:Cx}{T id:String}{name:Str}{r:V->List V->Hp->VK->Prop}{o:Expr}{to:TE}{apos cpos:Pos}(K:ah) (pa:nM T) (slot:Slot T name id) (hty:p0 (.builtin id)=pure (.type "method_descriptor")) (hm:MtR X id r) (ho:PE X o to)
  (hbase:dB o name X.env (eval o X.env)=eval o X.env:=by rfl) (hline:(apos.endLine == cpos.line)=true:=by rfl) (hK:X.K=K:=by rfl) :
  PE X (.Call (.Attribute o name apos) [] [] cpos) (Gy K T r to):=by
 subst hK
 first | exact Vj pa slot hty hm ho hbase hline | exact Vj pa slot hty hm ho
end L2
end
section
namespace L2
open PySem.W
section
variable {s:Shared}{A:bj}{prog:Program}{w:b9}{E:ag->Shared->Prop}
theorem GD {it t:Addr}{k:Nat}{its:Array ag}{v:ag}{Q:ag->Shared->Prop}(q:s.heap.IsTupleIter it t k) (p:s.heap.IsTuple t its) (e:its[k]? = some v)
  (z:∀g,g.IsTupleIter it t (k+1)->dY it s.heap g->Q v { s with heap:=g }):ay (aD prog w) A (bz (.ref it)) Q E s:=by
 obtain ⟨ob,gb,cb,db⟩:=id q;obtain ⟨ot,gt,_,nt,dt⟩:=p;unfold bz
 refine ae (cP (name:=aj "__next__") q.typeIs dg (d8 dg q.typeIs iJ ?_ (iz _)))
 show ay _ _ (rS (.ref it) 0 >>= _) _ _ s;refine ae (bM gb db (x:=.ref t) rfl ?_)
 show ay _ _ (if (aS t == b8)=true then _ else _) _ _ s;rw [if_neg (show ¬((aS t == b8)=true) from au)]
 show ay _ _ (rS (.ref it) 1 >>= _) _ _ s;refine ae (bM gb db (x:=.int k 0) rfl ?_)
 show ay _ _ (seqItems? (.ref t) >>= _) _ _ s;refine ae (cC gt dt ?_)
 simp only [bE,e]
 refine ae (fR gb db (by simp) (wpAny_pure ⟨v,rfl,wpAny_pure (z _ ⟨_,eM _ gb (eN (ee db _)),(oJ ..).trans cb,by rw [ee db];simp [bU]⟩ (nj ..))⟩))
theorem GQ {it t:Addr}{k:Nat}{its:Array ag}{Q:ag->Shared->Prop}(hh:A.handled=none) (q:s.heap.IsTupleIter it t k) (p:s.heap.IsTuple t its) (e:its[k]? = none)
  (z:∀g x,Heap.ExtBut it s.heap g->(∃o,g.get? x=some o/\o.cls = .type "StopIteration")->E (.ref x) { s with heap:=g }):ay (aD prog w) A (bz (.ref it)) Q E s:=by
 obtain ⟨ob,gb,cb,db⟩:=id q;obtain ⟨ot,gt,_,nt,dt⟩:=p;unfold bz
 refine ae (cP (name:=aj "__next__") q.typeIs dg (d8 dg q.typeIs iJ ?_ (iz _)))
 show ay _ _ (rS (.ref it) 0 >>= _) _ _ s;refine ae (bM gb db (x:=.ref t) rfl ?_)
 show ay _ _ (if (aS t == b8)=true then _ else _) _ _ s;rw [if_neg (show ¬((aS t == b8)=true) from au)]
 show ay _ _ (rS (.ref it) 1 >>= _) _ _ s;refine ae (bM gb db (x:=.int k 0) rfl ?_)
 show ay _ _ (seqItems? (.ref t) >>= _) _ _ s;refine ae (cC gt dt ?_)
 simp only [bE,e]
 refine ae (fq (ae (fR gb db (by simp) ?_)))
 show ay _ _ (newExc (.type "StopIteration") [] >>= _) _ _ _;refine ae ?_;simp only [newExc,newTuple]
 refine ae (c9 ?_ (by size_fits));refine ae (m:=rT _ _) (wpAny_of_eq (a:=b8) (by first | rfl | (simp only [rT];rfl)) ?_)
 refine c9 ?_ (by size_fits);simp only [raiseNew];refine ae (wpAny_handled ?_);first | rw [hh] | rw [show A.in1.handled=none from hh]
 exact ae (wpAny_pure (wpAny_throw (z _ _ (((nj ..).extBut.push _).push _) ⟨_,az _ rfl,rfl⟩)))
structure Feeds (prog:Program) (w:b9) (i l:Addr) (xs:Array ag) (S:Nat->Heap->Prop):Prop where
 keep:∀k h h',S k h->(∀o,h.get? i=some o->h'.get? i=some o)->(∀o,h.get? l=some o->h'.get? l=some o)->S k h'
 obj:∀k h,S k h->∃o,h.get? i=some o/\∀v,o.data≠.cell v
 item:∀(A:bj) (E:ag->Shared->Prop) (k:Nat) (x:ag) (s:Shared) (Q:ag->Shared->Prop),S k s.heap->xs[k]? = some x->(∀g,S (k+1) g->dY i s.heap g->Q x { s with heap:=g })->ay (aD prog w) A (bz (.ref i)) Q E s
 done:∀(A:bj) (E:ag->Shared->Prop) (k:Nat) (s:Shared) (Q:ag->Shared->Prop),A.handled=none->S k s.heap->xs[k]? = none->(∀g x,Heap.ExtBut i s.heap g->(∃o,g.get? x=some o/\o.cls = .type "StopIteration")->E (.ref x) { s with heap:=g })->ay (aD prog w) A (bz (.ref i)) Q E s
theorem Feeds.but {i l b:Addr}{xs:Array ag}{S:Nat->Heap->Prop}(f:Feeds prog w i l xs S) {k:Nat}{h h':Heap}(q:S k h) (sb:dY b h h') (n1:i≠b) (n2:l≠b):S k h':=f.keep k h h' q (λo e=>sb.extBut _ _ n1 e) λo e=>sb.extBut _ _ n2 e
theorem Zb {i l:Addr}{xs:Array ag}(n:l≠i):Feeds prog w i l xs λk h=>h.IsListIter i l k/\h.IsList l xs where
 keep:=λk h h' q k1 k2=>⟨q.1.at λo e=>k1 o e,q.2.at λo e=>k2 o e⟩
 obj:=λk h q=>by obtain ⟨o,e,_,d⟩:=q.1;exact ⟨o,e,λv z=>by rw [d] at z;cases z⟩
 item:=λA E k x s Q q e z=>wpAny_nextOf_list_item q.1 q.2 e λg q1 sb=>z g ⟨q1,q.2.extBut sb.extBut n⟩ sb
 done:=λA E k s Q hh q e z=>wpAny_nextOf_list_end hh q.1 q.2 e z
theorem Yh {i l:Addr}{xs:Array ag}(n:l≠i):Feeds prog w i l xs λk h=>h.IsTupleIter i l k/\h.IsTuple l xs where
 keep:=λk h h' q k1 k2=>⟨q.1.at λo e=>k1 o e,let ⟨o,e,r⟩:=q.2;⟨o,k2 o e,r⟩⟩
 obj:=λk h q=>by obtain ⟨o,e,_,d⟩:=q.1;exact ⟨o,e,λv z=>by rw [d] at z;cases z⟩
 item:=λA E k x s Q q e z=>GD q.1 q.2 e λg q1 sb=>z g ⟨q1,q.2.extBut sb.extBut n⟩ sb
 done:=λA E k s Q hh q e z=>GQ hh q.1 q.2 e z
theorem Vv {z TI TO i1 i2 l1 l2:Addr}{k1 k2:Nat}{xs ys:Array ag}{x y a b:ag}{S1 S2:Nat->Heap->Prop}{Q:ag->Shared->Prop}(D:mR z TI TO i1 i2 l1 l2) (f1:Feeds prog w i1 l1 xs S1) (f2:Feeds prog w i2 l2 ys S2)
  (g0:iV s.heap z TI TO .none) (gI:dE s.heap TI (.ref i1) (.ref i2)) (gO:dE s.heap TO a b) (q1:S1 k1 s.heap) (q2:S2 k2 s.heap) (ex:xs[k1]? = some x) (ey:ys[k2]? = some y)
  (R:∀g,iV g z TI TO (bU s.heap.objs.size)->dE g TO x y->S1 (k1+1) g->S2 (k2+1) g->dE g s.heap.objs.size x y->g.objs.size=s.heap.objs.size+1 ->
   (∀c o,c≠z->c≠TO->c≠i1->c≠i2->s.heap.get? c=some o->g.get? c=some o)->Q (.ref s.heap.objs.size) { s with heap:=g }):ay (aD prog w) A (dW.«zip.__next__» ⟨[.ref z],[]⟩) (λfin s'=>∃v,fin = .done (.ret v)/\Q v s') E s:=by
 show ay _ _ (rS (.ref z) 2 >>= _) _ _ _;refine ae (bM g0 rfl (x:=.bool false) rfl ?_)
 show ay _ _ (rS (.ref z) 3 >>= _) _ _ _;refine ae (bM g0 rfl (x:=.ref TI) rfl ?_)
 refine ae (cC gI rfl ?_);show ay _ _ (cg (.ref z) >>= _) _ _ _
 refine ae ?_;unfold cg;refine ae (bM g0 rfl (x:=.none) rfl (wpAny_pure ?_));simp only [if_true]
 refine ae (fq ?_);refine ae (bM g0 rfl (x:=.ref TO) rfl ?_)
 refine ae (dh g0 (by simp) λh1 g1 e1=>?_)
 replace g1:iV h1 z TI TO .ellipsis:=g1
 refine ae ?_;simp only [ph,pR,iu,rV]
 refine ae (ae (lA ?_));show ay _ _ (bz (.ref i1) >>= _) _ _ _
 refine ae (f1.item _ _ k1 x _ _ (f1.but q1 e1 D.i1z D.l1z) ex λh2 q1' e2=>wpAny_pure ?_)
 have gO2:dE h2 TO a b:=e2.extBut _ _ D.TOi1 (e1.extBut _ _ D.TOz gO)
 refine ae (cC gO2 rfl ?_);refine ae (ik gO2 λh3 gO3 e3=>?_)
 replace gO3:dE h3 TO x b:=gO3
 refine ae (mP (wpAny_pure ?_));refine ae (ae (lA ?_));show ay _ _ (bz (.ref i2) >>= _) _ _ _
 refine ae (f2.item _ _ k2 y _ _ (f2.but (f2.but (f2.but q2 e1 D.i2z D.l2z) e2 D.i12.symm D.l2i1) e3 D.TOi2.symm D.l2TO) ey λh4 q2' e4=>wpAny_pure ?_)
 have gO4:dE h4 TO x b:=e4.extBut _ _ D.TOi2 gO3
 refine ae (cC gO4 rfl ?_);refine ae (ik gO4 λh5 gO5 e5=>?_)
 replace gO5:dE h5 TO x y:=gO5
 refine ae (mP (wpAny_pure (wpAny_pure ?_)));refine ae (cC gO5 rfl ?_);refine ae (iT ?_)
 have sz:h5.objs.size=s.heap.objs.size:=by rw [e5.1,e4.1,e3.1,e2.1,e1.1]
 have g5:iV h5 z TI TO .ellipsis:=e5.extBut _ _ D.TOz.symm (e4.extBut _ _ D.i2z.symm (e3.extBut _ _ D.TOz.symm (e2.extBut _ _ D.i1z.symm g1)))
 have k5:∀c o,c≠z->c≠TO->c≠i1->c≠i2->s.heap.get? c=some o->h5.get? c=some o:=λc o n1 n2 n3 n4 e=>e5.extBut _ _ n2 (e4.extBut _ _ n4 (e3.extBut _ _ n2 (e2.extBut _ _ n3 (e1.extBut _ _ n1 e))))
 have q15:S1 (k1+1) h5:=f1.but (f1.but (f1.but q1' e3 D.TOi1.symm D.l1TO) e4 D.i12 D.l1i2) e5 D.TOi1.symm D.l1TO
 have q25:S2 (k2+1) h5:=f2.but q2' e5 D.TOi2.symm D.l2TO
 have lz:z<h5.objs.size:=aw g5
 show ay _ _ (ff (.ref z) (.ref h5.objs.size) >>= _) _ _ _;refine ae ?_;unfold ff
 have g6:iV (h5.push { cls:=.type "tuple",data:=.seq #[x,y] }) z TI TO .ellipsis:=ai _ g5
 refine ae (dh g6 (by simp) λh7 g7 e7=>?_)
 replace g7:iV h7 z TI TO (bU h5.objs.size):=g7
 refine dh g7 (by simp) λh8 g8 e8=>?_
 replace g8:iV h8 z TI TO (bU h5.objs.size):=g8
 have up:∀c o,c≠z->h5.get? c=some o->h8.get? c=some o:=λc o n e=>e8.extBut _ _ n (e7.extBut _ _ n (ai _ e))
 have gT:dE h8 h5.objs.size x y:=e8.extBut _ _ (cW lz) (e7.extBut _ _ (cW lz) (az _ rfl))
 have sz8:h8.objs.size=h5.objs.size+1:=by rw [e8.1,e7.1,cv]
 rw [sz] at g8 gT sz8
 refine wpAny_pure ⟨_,rfl,?_⟩;show Q (.ref h5.objs.size) _;rw [sz]
 exact R h8 g8 (up _ _ D.TOz gO5) (f1.keep _ _ _ q15 (λo e=>up _ o D.i1z e) λo e=>up _ o D.l1z e) (f2.keep _ _ _ q25 (λo e=>up _ o D.i2z e) λo e=>up _ o D.l2z e) gT sz8 λc o n1 n2 n3 n4 e=>up c o n1 (k5 c o n1 n2 n3 n4 e)
theorem VQ {z TI TO i1 i2 l1 l2:Addr}{k1 k2:Nat}{xs ys:Array ag}{a b:ag}{S1 S2:Nat->Heap->Prop}{Q:Fin->Shared->Prop}(hh:A.handled=none) (D:mR z TI TO i1 i2 l1 l2) (f1:Feeds prog w i1 l1 xs S1) (f2:Feeds prog w i2 l2 ys S2)
  (g0:iV s.heap z TI TO .none) (gI:dE s.heap TI (.ref i1) (.ref i2)) (gO:dE s.heap TO a b) (q1:S1 k1 s.heap) (q2:S2 k2 s.heap) (ed:xs[k1]? = none\/ys[k2]? = none)
  (R:∀g e,(∀c o,c≠z->c≠TO->c≠i1->c≠i2->s.heap.get? c=some o->g.get? c=some o)->(∃o,g.get? e=some o/\o.cls = .type "StopIteration")->E (.ref e) { s with heap:=g }):ay (aD prog w) A (dW.«zip.__next__» ⟨[.ref z],[]⟩) Q E s:=by
 show ay _ _ (rS (.ref z) 2 >>= _) _ _ _;refine ae (bM g0 rfl (x:=.bool false) rfl ?_)
 show ay _ _ (rS (.ref z) 3 >>= _) _ _ _;refine ae (bM g0 rfl (x:=.ref TI) rfl ?_)
 refine ae (cC gI rfl ?_);show ay _ _ (cg (.ref z) >>= _) _ _ _
 refine ae ?_;unfold cg;refine ae (bM g0 rfl (x:=.none) rfl (wpAny_pure ?_));simp only [if_true]
 refine ae (fq ?_);refine ae (bM g0 rfl (x:=.ref TO) rfl ?_)
 refine ae (dh g0 (by simp) λh1 g1 e1=>?_)
 replace g1:iV h1 z TI TO .ellipsis:=g1
 refine ae ?_;simp only [ph,pR,iu,rV]
 refine ae (ae (lA ?_));show ay _ _ (bz (.ref i1) >>= _) _ _ _
 cases ex:xs[k1]? with
 | none =>
  refine ae (f1.done _ _ k1 _ _ hh (f1.but q1 e1 D.i1z D.l1z) ex λh2 e e2 he=>?_)
  obtain ⟨oe,ge,ce⟩:=he
  have g2:iV h2 z TI TO .ellipsis:=e2 _ _ D.i1z.symm g1
  have ne:e≠z:=λq=>by subst q;rw [g2] at ge;cases ge;simp at ce
  exact dh g2 (by simp) λh3 _ e3=>R h3 e (λc o n1 _ n3 _ q=>e3.extBut _ _ n1 (e2 _ _ n3 (e1.extBut _ _ n1 q))) ⟨oe,e3.extBut _ _ ne ge,ce⟩
 | some x =>
  have ey:ys[k2]? = none:=by rcases ed with q | q;rw [ex] at q;cases q;exact q
  refine ae (f1.item _ _ k1 x _ _ (f1.but q1 e1 D.i1z D.l1z) ex λh2 q1' e2=>wpAny_pure ?_)
  have gO2:dE h2 TO a b:=e2.extBut _ _ D.TOi1 (e1.extBut _ _ D.TOz gO)
  refine ae (cC gO2 rfl ?_);refine ae (ik gO2 λh3 gO3 e3=>?_)
  refine ae (mP (wpAny_pure ?_));refine ae (ae (lA ?_));show ay _ _ (bz (.ref i2) >>= _) _ _ _
  refine ae (f2.done _ _ k2 _ _ hh (f2.but (f2.but (f2.but q2 e1 D.i2z D.l2z) e2 D.i12.symm D.l2i1) e3 D.TOi2.symm D.l2TO) ey λh4 e e4 he=>?_)
  obtain ⟨oe,ge,ce⟩:=he
  have g4:iV h4 z TI TO .ellipsis:=e4 _ _ D.i2z.symm (e3.extBut _ _ D.TOz.symm (e2.extBut _ _ D.i1z.symm g1))
  have ne:e≠z:=λq=>by subst q;rw [g4] at ge;cases ge;simp at ce
  exact dh g4 (by simp) λh5 _ e5=>R h5 e (λc o n1 n2 n3 n4 q=>e5.extBut _ _ n1 (e4 _ _ n4 (e3.extBut _ _ n2 (e2.extBut _ _ n3 (e1.extBut _ _ n1 q))))) ⟨oe,e5.extBut _ _ ne ge,ce⟩
theorem GI {z TI TO i1 i2 l1 l2:Addr}{k1 k2:Nat}{xs ys:Array ag}{x y a b:ag}{S1 S2:Nat->Heap->Prop}{Q:Option ag->Shared->Prop}(D:mR z TI TO i1 i2 l1 l2) (f1:Feeds prog w i1 l1 xs S1) (f2:Feeds prog w i2 l2 ys S2)
  (g0:iV s.heap z TI TO .none) (gI:dE s.heap TI (.ref i1) (.ref i2)) (gO:dE s.heap TO a b) (q1:S1 k1 s.heap) (q2:S2 k2 s.heap) (ex:xs[k1]? = some x) (ey:ys[k2]? = some y)
  (R:∀g,iV g z TI TO (bU s.heap.objs.size)->dE g TO x y->S1 (k1+1) g->S2 (k2+1) g->dE g s.heap.objs.size x y->g.objs.size=s.heap.objs.size+1 ->
   (∀c o,c≠z->c≠TO->c≠i1->c≠i2->s.heap.get? c=some o->g.get? c=some o)->Q (some (.ref s.heap.objs.size)) { s with heap:=g }):ay (aD prog w) A (fG (.ref z)) Q E s:=by
 have ty:s.TypeIs (.ref z) "zip":=⟨_,g0,rfl⟩
 unfold fG;exact ae (nA (cP (name:=aj "__next__") ty iA (d8 iA ty pj
   (Vv D f1 f2 g0 gI gO q1 q2 ex ey λg a1 a2 a3 a4 a5 a6 a7=>wpAny_pure (R g a1 a2 a3 a4 a5 a6 a7)) (oK _))))
theorem GC {z TI TO i1 i2 l1 l2:Addr}{k1 k2:Nat}{xs ys:Array ag}{a b:ag}{S1 S2:Nat->Heap->Prop}{Q:Option ag->Shared->Prop}(hh:A.handled=none) (D:mR z TI TO i1 i2 l1 l2) (f1:Feeds prog w i1 l1 xs S1) (f2:Feeds prog w i2 l2 ys S2)
  (g0:iV s.heap z TI TO .none) (gI:dE s.heap TI (.ref i1) (.ref i2)) (gO:dE s.heap TO a b) (q1:S1 k1 s.heap) (q2:S2 k2 s.heap) (ed:xs[k1]? = none\/ys[k2]? = none)
  (R:∀g,(∀c o,c≠z->c≠TO->c≠i1->c≠i2->s.heap.get? c=some o->g.get? c=some o)->Q none { s with heap:=g }):ay (aD prog w) A (fG (.ref z)) Q E s:=by
 have ty:s.TypeIs (.ref z) "zip":=⟨_,g0,rfl⟩
 unfold fG;refine ae (nA (cP (name:=aj "__next__") ty iA (d8 iA ty pj (VQ hh D f1 f2 g0 gI gO q1 q2 ed λg e hk he=>?_) (oK _))))
 obtain ⟨o,ho,hc⟩:=he
 exact ae (wpAny_isInstance (T:="StopIteration") (b:=true) ⟨o,ho,hc⟩ isSubtype_stop (wpAny_pure (R _ hk)))
noncomputable def G9 (t:Bool):String:=match t with | true=>"tuple_iterator" | false=>"list_iterator"
noncomputable def ItK (t:Bool) (h:Heap) (i l:Addr) (k:Nat):Prop:=match t with | true=>h.IsTupleIter i l k | false=>h.IsListIter i l k
noncomputable def IsK (t:Bool) (h:Heap) (l:Addr) (xs:Array ag):Prop:=match t with | true=>h.IsTuple l xs | false=>h.IsList l xs
noncomputable def SqK (t:Bool) (K:ah) (H:Hp) (a:Addr) (xs:List V):Prop:=match t with | true=>SqT K H a xs | false=>SqL K H a xs
theorem IsK.at {t:Bool}{h h':Heap}{l:Addr}{xs:Array ag}(q:IsK t h l xs) (k:∀o,h.get? l=some o->h'.get? l=some o):IsK t h' l xs:=by
 cases t with
 | true=>obtain ⟨o,e,r⟩:=q;exact ⟨o,k o e,r⟩
 | false=>exact Heap.IsList.at q λo e=>k o e
theorem IsK.lt {t:Bool}{h:Heap}{l:Addr}{xs:Array ag}(q:IsK t h l xs):l<h.objs.size:=by
 cases t with
 | true=>obtain ⟨o,e,r⟩:=q;exact aw e
 | false=>obtain ⟨o,e,r⟩:=q;exact aw e
theorem ItK.at {t:Bool}{h h':Heap}{i l:Addr}{k:Nat}(q:ItK t h i l k) (f:∀o,h.get? i=some o->h'.get? i=some o):ItK t h' i l k:=by
 cases t with
 | true=>obtain ⟨o,e,r⟩:=q;exact ⟨o,f o e,r⟩
 | false=>obtain ⟨o,e,r⟩:=q;exact ⟨o,f o e,r⟩
theorem ItK.obj {t:Bool}{h:Heap}{i l:Addr}{k:Nat}(q:ItK t h i l k):∃o,h.get? i=some o/\∀v,o.data≠.cell v:=by
 cases t with
 | true=>obtain ⟨o,e,_,d⟩:=q;exact ⟨o,e,λv z=>by rw [d] at z;cases z⟩
 | false=>obtain ⟨o,e,_,d⟩:=q;exact ⟨o,e,λv z=>by rw [d] at z;cases z⟩
theorem ItK.of {t:Bool}{h:Heap}{i l:Addr}(e:h.get? i=some { cls:=.type (G9 t),data:=.fields #[.ref l,.int 0 0] }):ItK t h i l 0:=by
 cases t with
 | true=>exact ⟨_,e,rfl,rfl⟩
 | false=>exact ⟨_,e,rfl,rfl⟩
theorem Jv {t:Bool}{i l:Addr}{xs:Array ag}(n:l≠i):Feeds prog w i l xs λk h=>ItK t h i l k/\IsK t h l xs:=by
 cases t with
 | true=>exact Yh n
 | false=>exact Zb n
theorem ZF {t:Bool}{l:Addr}{xs:Array ag}{Q:ag->Shared->Prop}(q:IsK t s.heap l xs) (z:Q (.ref s.heap.objs.size) { s with heap:=s.heap.push { cls:=.type (G9 t),data:=.fields #[.ref l,.int 0 0] } }):ay (aD prog w) A (mF (.ref l)) Q E s:=by
 cases t with
 | true=>exact nJ q z
 | false=>exact dw q z
noncomputable abbrev zp1 (t:Bool) (h:Heap) (l:Addr):Heap:=h.push { cls:=.type (G9 t),data:=.fields #[.ref l,.int 0 0] }
noncomputable abbrev zp2 (t u:Bool) (h:Heap) (l m:Addr):Heap:=zp1 u (zp1 t h l) m
noncomputable abbrev zp3 (t u:Bool) (h:Heap) (l m:Addr):Heap:=(zp2 t u h l m).push { cls:=.type "tuple",data:=.seq #[.ref h.objs.size,.ref (zp1 t h l).objs.size] }
noncomputable abbrev zp4 (t u:Bool) (h:Heap) (l m:Addr):Heap:=(zp3 t u h l m).push { cls:=.type "tuple",data:=.seq #[.none,.none] }
noncomputable abbrev zp5 (t u:Bool) (h:Heap) (l m:Addr):Heap:=(zp4 t u h l m).push { cls:=.type "zip",data:=.fields #[.none,.bool false,.bool false,.ref (zp2 t u h l m).objs.size,.ref (zp3 t u h l m).objs.size] }
theorem Yq (t u:Bool) (l m:Addr) (xs ys:Array ag) :
  Meets (dW.«zip.__new__» ⟨[.type "zip",.ref l,.ref m],[]⟩) (λ_ R s=>IsK t s.heap l xs/\IsK u s.heap m ys/\R (.ok (.ret (.ref (zp4 t u s.heap l m).objs.size))) { s with heap:=zp5 t u s.heap l m }) :=
 .of_wp λprog w A R s0 h=>by
  obtain ⟨hp,g,d,tk,os⟩:=s0;obtain ⟨q1,q2,h⟩:=h;have hsub:=sub_zip
  have p1:IsK t (Shared.heap ⟨hp,g,d,tk,os⟩) l xs:=q1
  have p2:IsK u (Shared.heap ⟨zp1 t hp l,g,d,tk,os⟩) m ys:=q2.at λo e=>ai _ e
  wp_walk using ZF p1,ZF p2
  exact ⟨_,rfl,h⟩
theorem WD {t u:Bool}{l m:Addr}{xs ys:Array ag}{Q:ag->Shared->Prop}(q1:IsK t s.heap l xs) (q2:IsK u s.heap m ys)
  (R:∀g,iV g (s.heap.objs.size+4) (s.heap.objs.size+2) (s.heap.objs.size+3) .none->dE g (s.heap.objs.size+2) (.ref s.heap.objs.size) (.ref (s.heap.objs.size+1)) ->
   dE g (s.heap.objs.size+3) .none .none->ItK t g s.heap.objs.size l 0->ItK u g (s.heap.objs.size+1) m 0->(∀c o,s.heap.get? c=some o->g.get? c=some o)->Q (.ref (s.heap.objs.size+4)) { s with heap:=g }) :
  ay (aD prog w) A (call (.type "zip") [.ref l,.ref m]) Q E s:=by
 refine callType_new F.called_zip ⋯ (F.typeCall_zip_2 _ _) (F.newCall_zip_2 _ _) (λobj=>F.args_object_init_3 obj _ _) F.entry_zip_new (Yq t u l m xs ys) ⟨q1,q2,?_⟩
 have z1:(zp1 t s.heap l).objs.size=s.heap.objs.size+1:=cv ..
 have z2:(zp2 t u s.heap l m).objs.size=s.heap.objs.size+2:=by rw [cv,z1]
 have z3:(zp3 t u s.heap l m).objs.size=s.heap.objs.size+3:=by rw [cv,z2]
 have z4:(zp4 t u s.heap l m).objs.size=s.heap.objs.size+4:=by rw [cv,z3]
 have g5:(zp5 t u s.heap l m).get? (zp4 t u s.heap l m).objs.size=some _:=az _ rfl
 have g4:(zp5 t u s.heap l m).get? (zp3 t u s.heap l m).objs.size=some _:=ai _ (az _ rfl)
 have g3:(zp5 t u s.heap l m).get? (zp2 t u s.heap l m).objs.size=some _:=ai _ (ai _ (az _ rfl))
 have g2:(zp5 t u s.heap l m).get? (zp1 t s.heap l).objs.size=some _:=ai _ (ai _ (ai _ (az _ rfl)))
 have g1:(zp5 t u s.heap l m).get? s.heap.objs.size=some _:=ai _ (ai _ (ai _ (ai _ (az _ rfl))))
 show _/\_
 rw [z2,z3,z4] at g5;rw [z1,z2] at g3;rw [z3] at g4;rw [z1] at g2;rw [z4]
 exact ⟨⟨_,g5,rfl⟩,R _ g5 g3 g4 (.of g1) (.of g2) λc o x=>ai _ (ai _ (ai _ (ai _ (ai _ x))))⟩
end
section
variable {X:Cx}{s:Shared}{σ:St}{H:Hp}{pins:List (Addr×Obj)}
theorem Yr {t:Bool}{a:Addr}{xs:List V}(I:Inv X pins σ H s) (h:SqK t X.K H a xs):∃its:List ag,jC xs its/\IsK t s.heap a its.toArray/\xs.length<=sizeLine:=by
 cases t with
 | true=>exact I.tuple h
 | false=>obtain ⟨its,r,p,z⟩:=I.list h;exact ⟨its,r,p.isList,z⟩
theorem Q8 {t:Bool}{a:Addr}{xs ys:List V}(I:Inv X pins σ H s) (h:SqK t X.K H a xs) (h':SqK t X.K H a ys):xs=ys:=by
 cases t with
 | true=>exact I.tuple_inj h h'
 | false=>exact I.list_inj h h'
end
noncomputable def VW (K:ah) (t u:Bool) (l1 l2:Addr):It :=
 ⟨λi H=>∃xs ys x y,SqK t K H l1 xs/\SqK u K H l2 ys/\xs[i]? = some x/\ys[i]? = some y,λi H v H'=>∃p x y,v = .ref p/\H p=none/\H'=upd H p (.tup [x,y])/\(∀xs,SqK t K H l1 xs->xs[i]? = some x)/\∀ys,SqK u K H l2 ys->ys[i]? = some y,
  λi H=>∃xs ys,SqK t K H l1 xs/\SqK u K H l2 ys/\(xs.length<=i\/ys.length<=i)⟩
theorem ZS {t u:Bool}{P:Program}{w:b9}{K:ah}{es:List Expr}{x1:Nat}{pos:Pos}{z TI TO i1 i2 l1 l2:Addr}(D:mR z TI TO i1 i2 l1 l2) :
  Turn P w K (.Tuple es x1 pos) (VW K t u l1 l2) [z,TI,TO,i1,i2] z (λi h=>∃a b,iV h z TI TO .none/\dE h TI (.ref i1) (.ref i2)/\dE h TO a b/\ItK t h i1 l1 i/\ItK u h i2 l2 i) where
 mem:=by simp
 obj:=λi h ⟨a,b,t1,t2,t3,t4,t5⟩ c hc=>by
  simp only [eK,fc,or_false] at hc
  rcases hc with rfl | rfl | rfl | rfl | rfl
  ·exact ⟨_,t1,λv e=>by have e':mG _=lJ v:=e;cases e'⟩
  ·exact ⟨_,t2,λv e=>by have e':Data.seq _ _=lJ v:=e;cases e'⟩
  ·exact ⟨_,t3,λv e=>by have e':Data.seq _ _=lJ v:=e;cases e'⟩
  ·exact t4.obj
  ·exact t5.obj
 keep:=λi h h' ⟨a,b,t1,t2,t3,t4,t5⟩ k=>⟨a,b,k z (by simp) _ t1,k TI (by simp) _ t2,k TO (by simp) _ t3,t4.at λo e=>k i1 (by simp) o e,t5.at λo e=>k i2 (by simp) o e⟩
 item:=by
  intro X hP hw hK hc i pins s σ H E I hf st hg
  subst hP hw hK
  obtain ⟨a,b,t1,t2,t3,t4,t5⟩:=st
  obtain ⟨xs,ys,x,y,hq1,hq2,hx,hy⟩:=hg
  obtain ⟨its1,rv1,p1,_⟩:=Yr I hq1
  obtain ⟨its2,rv2,p2,_⟩:=Yr I hq2
  obtain ⟨u1,hu1,ru1⟩:=rv1.get hx
  obtain ⟨u2,hu2,ru2⟩:=rv2.get hy
  have hn:H s.heap.objs.size=none:=I.hok.fresh (aq _)
  have fz:=hf z (by simp)
  have fTO:=hf TO (by simp)
  have f1:=hf i1 (by simp)
  have f2:=hf i2 (by simp)
  refine GI D (Jv D.l1i1) (Jv D.l2i2) t1 t2 t3 ⟨t4,p1⟩ ⟨t5,p2⟩ (x:=u1) (y:=u2) (by simpa using hu1) (by simpa using hu2) λh' o1 o2 o3 o4 o5 o6 o7=>⟨_,rfl,?_⟩
  obtain ⟨o3,_⟩:=o3;obtain ⟨o4,_⟩:=o4
  refine wpAny_letOwnedTupleGo_zip o1 λh2 q1 sb=>?_
  have hzl:z<s.heap.objs.size:=aw t1
  have kk:∀c o,c≠z->c≠TO->c≠i1->c≠i2->s.heap.get? c=some o->h2.get? c=some o:=λc o n1 n2 n3 n4 e=>(sb.2 c n1).trans (o7 c o n1 n2 n3 n4 e)
  have et:h2.get? s.heap.objs.size=some { cls:=.type "tuple",data:=.seq #[u1,u2] }:=(sb.2 _ (cW hzl)).trans o5
  have tne:∀c o,H c=some o->c≠z/\c≠TO/\c≠i1/\c≠i2/\c≠s.heap.objs.size:=λc o q=>⟨λe=>(by rw [e,fz.1] at q;cases q),λe=>(by rw [e,fTO.1] at q;cases q),λe=>(by rw [e,f1.1] at q;cases q),λe=>(by rw [e,f2.1] at q;cases q),λe=>(by rw [e,hn] at q;cases q)⟩
  have getF:∀{c:Addr} {o:HO},H c=some o->upd H s.heap.objs.size (.tup [x,y]) c=some o:=λ{c o} q=>by rw [j6 (tne c o q).2.2.2.2];exact q
  have nin:∀{c:Addr},c∉[z,TO,i1,i2]->c≠z/\c≠TO/\c≠i1/\c≠i2:=λ{c} h=>by simpa using h
  have I1:Inv X pins σ (upd H s.heap.objs.size (.tup [x,y])) { s with heap:=h2,toks:=s.toks }:=by
   refine I.step (g':=s.gens) (d':=s.drawn) (ch:=[z,TO,i1,i2]) (λc hc'=>?_) (λc o _ _ hc' e _=>kk c o (nin hc').1 (nin hc').2.1 (nin hc').2.2.1 (nin hc').2.2.2 e) (λc o _ _ hc' e _=>⟨o.slots,kk c o (nin hc').1 (nin hc').2.1 (nin hc').2.2.1 (nin hc').2.2.2 e⟩)
    (λc o _ e n=>by rw [j6 (aA (aw e))];exact n) (λc o hc' e=>⟨o,kk c o (nin hc').1 (nin hc').2.1 (nin hc').2.2.1 (nin hc').2.2.2 e⟩) (λ_ _ q=>getF q) (λ_ _ _ q=>getF q) (λc ps q=>⟨#[],by rw [getF q];simp⟩) (λm hm=>?_) (λc v q=>?_) I.bare
   ·simp only [eK,fc,or_false] at hc'
    rcases hc' with rfl | rfl | rfl | rfl
    ·exact ⟨fz.2.2.2.1,fz.2.1,fz.2.2.2.2.1,fz.2.2.2.2.2⟩
    ·exact ⟨fTO.2.2.2.1,fTO.2.1,fTO.2.2.2.2.1,fTO.2.2.2.2.2⟩
    ·exact ⟨f1.2.2.2.1,f1.2.1,f1.2.2.2.2.1,f1.2.2.2.2.2⟩
    ·exact ⟨f2.2.2.2.1,f2.2.1,f2.2.2.2.2.1,f2.2.2.2.2.2⟩
   ·obtain ⟨o,es,ep,ho,r⟩:=hm
    exact ⟨o,es,ep,kk _ o (cj fz.2.1) (cj fTO.2.1) (cj f1.2.1) (cj f2.2.1) ho,r⟩
   ·by_cases hb:c=s.heap.objs.size
    ·subst hb
     rw [j5] at q;cases q
     exact ⟨by show 2<=sizeLine;decide,[u1,u2],.cons ru1 (.cons ru2 .nil),⟨_,et,rfl,0,rfl⟩⟩
    ·rw [j6 hb] at q
     have hh:=tne c v q
     refine (I.hok c v q).stay (λc' o hc' e=>?_) (λ_ e=>getF e) λ_ _ e=>getF e
     have hh':c'≠z/\c'≠TO/\c'≠i1/\c'≠i2:=by
      rcases hc' with e | e
      ·rw [e];exact ⟨hh.1,hh.2.1,hh.2.2.1,hh.2.2.2.1⟩
      ·have:=tne c' _ e;exact ⟨this.1,this.2.1,this.2.2.1,this.2.2.2.1⟩
     exact kk c' o hh'.1 hh'.2.1 hh'.2.2.1 hh'.2.2.2 e
  have s2:∀{c:Addr} {o:Obj},c≠z->h'.get? c=some o->h2.get? c=some o:=λn e=>(sb.2 _ n).trans e
  refine ⟨.ref s.heap.objs.size,_,I1,rfl,⟨_,x,y,rfl,hn,rfl,λys' hy'=>by rw [Q8 I hy' hq1];exact hx,λys' hy'=>by rw [Q8 I hy' hq2];exact hy⟩,⟨u1,u2,q1,kk _ _ D.TIz D.TITO D.TIi1 D.TIi2 t2,s2 D.TOz o2,o3.at λo e=>s2 D.i1z e,o4.at λo e=>s2 D.i2z e⟩,λc hc'=>?_⟩
  have hl:c<s.heap.objs.size:=by
   simp only [eK,fc,or_false] at hc'
   rcases hc' with rfl | rfl | rfl | rfl | rfl
   ·exact hzl
   ·exact aw t2
   ·exact aw t3
   ·obtain ⟨o,e,_⟩:=t4.obj;exact aw e
   ·obtain ⟨o,e,_⟩:=t5.obj;exact aw e
  rw [j6 (aA hl)]
  exact (hf c hc').1
 done:=by
  intro X hP hw hK hc i pins s σ H E I hf st hg
  subst hP hw hK
  obtain ⟨a,b,t1,t2,t3,t4,t5⟩:=st
  obtain ⟨xs,ys,hq1,hq2,hend⟩:=hg
  obtain ⟨its1,rv1,p1,_⟩:=Yr I hq1
  obtain ⟨its2,rv2,p2,_⟩:=Yr I hq2
  have e1:=rv1.length
  have e2:=rv2.length
  have fz:=hf z (by simp)
  have fTO:=hf TO (by simp)
  have f1:=hf i1 (by simp)
  have f2:=hf i2 (by simp)
  have tne:∀c o,H c=some o->c≠z/\c≠TO/\c≠i1/\c≠i2:=λc o q=>⟨λe=>(by rw [e,fz.1] at q;cases q),λe=>(by rw [e,fTO.1] at q;cases q),λe=>(by rw [e,f1.1] at q;cases q),λe=>(by rw [e,f2.1] at q;cases q)⟩
  have nin:∀{c:Addr},c∉[z,TO,i1,i2]->c≠z/\c≠TO/\c≠i1/\c≠i2:=λ{c} h=>by simpa using h
  refine GC (I.ok.hd hc) D (Jv D.l1i1) (Jv D.l2i2) t1 t2 t3 ⟨t4,p1⟩ ⟨t5,p2⟩ ?_ λh' kk=>⟨rfl,?_⟩
  ·rcases hend with h | h
   ·exact .inl (by simp;omega)
   ·exact .inr (by simp;omega)
  ·refine I.step (g':=s.gens) (d':=s.drawn) (t':=s.toks) (ch:=[z,TO,i1,i2]) (λc hc'=>?_) (λc o _ _ hc' e _=>kk c o (nin hc').1 (nin hc').2.1 (nin hc').2.2.1 (nin hc').2.2.2 e) (λc o _ _ hc' e _=>⟨o.slots,kk c o (nin hc').1 (nin hc').2.1 (nin hc').2.2.1 (nin hc').2.2.2 e⟩)
    (λ_ _ _ _ n=>n) (λc o hc' e=>⟨o,kk c o (nin hc').1 (nin hc').2.1 (nin hc').2.2.1 (nin hc').2.2.2 e⟩) (λ_ _ q=>q) (λ_ _ _ q=>q) (λc ps q=>⟨#[],by rw [q];simp⟩) (λm hm=>?_) (λc v q=>?_) I.bare
   ·simp only [eK,fc,or_false] at hc'
    rcases hc' with rfl | rfl | rfl | rfl
    ·exact ⟨fz.2.2.2.1,fz.2.1,fz.2.2.2.2.1,fz.2.2.2.2.2⟩
    ·exact ⟨fTO.2.2.2.1,fTO.2.1,fTO.2.2.2.2.1,fTO.2.2.2.2.2⟩
    ·exact ⟨f1.2.2.2.1,f1.2.1,f1.2.2.2.2.1,f1.2.2.2.2.2⟩
    ·exact ⟨f2.2.2.2.1,f2.2.1,f2.2.2.2.2.1,f2.2.2.2.2.2⟩
   ·obtain ⟨o,es,ep,ho,r⟩:=hm
    exact ⟨o,es,ep,kk _ o (cj fz.2.1) (cj fTO.2.1) (cj f1.2.1) (cj f2.2.1) ho,r⟩
   ·have hh:=tne c v q
    refine (I.hok c v q).stay (λc' o hc' e=>?_) (λ_ e=>e) λ_ _ e=>e
    have hh':c'≠z/\c'≠TO/\c'≠i1/\c'≠i2:=by
     rcases hc' with e | e
     ·rw [e];exact hh
     ·exact tne c' _ e
    exact kk c' o hh'.1 hh'.2.1 hh'.2.2.1 hh'.2.2.2 e
 self:=λ_ _ _ _ _ ⟨_,_,t1,_⟩ h=>pq t1 h
section
variable {X:Cx}
noncomputable def GG (K:ah) (ta:TA):TI:=λσ H R=>ta σ H λvs H1=>∃t u a b,vs=[.ref a,.ref b]/\(∃xs,SqK t K H1 a xs)/\(∃ys,SqK u K H1 b ys)/\R (VW K t u a b) H1
theorem Um {es:List Expr}{x1:Nat}{tpos:Pos}{l r:Expr}{ta:TA}{p pos:Pos}(K:ah) (hg:Gl X "zip") (hm:X.mg "zip" = none) (ha:PA X [l,r] ta) (hs:aO [l,r] X.env=(false,eval l X.env)::aO [r] X.env:=by rfl) (hs2:(cH pos (aO [r] X.env)).any (·.1)=false:=by rfl) (hK:X.K=K:=by rfl) :
  PI X (.Tuple es x1 tpos) (.Call (.Name "zip" p) [l,r] [] pos) (GG K ta):=by
 subst hK
 intro pins s σ H R I h
 refine t7 (yq I hg hm boot_zip (c3 (thn (ha pos pins s σ H _ I h) λus s1 ⟨vs,H1,I1,r1,q1⟩=>?_) hs hs2))
 obtain ⟨t,t2,a,b,e,⟨xs,hq⟩,⟨ys,hq2⟩,q⟩:=q1
 subst e
 obtain ⟨u,u2,rfl,ru,ru2⟩:=Zq r1
 cases ru
 cases ru2
 obtain ⟨its,rv,pl,_⟩:=Yr I1 hq
 obtain ⟨its2,rv2,pl2,_⟩:=Yr I1 hq2
 refine WD pl pl2 λh' z1 z2 z3 z4 z5 kk=>?_
 refine pq z1 ?_
 have I2:Inv X pins σ H1 { s1 with heap:=h',toks:=s1.toks }:=I1.kept kk
 have la:a<s1.heap.objs.size:=pl.lt
 have lb:b<s1.heap.objs.size:=pl2.lt
 have D:mR (s1.heap.objs.size+4) (s1.heap.objs.size+2) (s1.heap.objs.size+3) s1.heap.objs.size (s1.heap.objs.size+1) a b:=by
  constructor <;> first | exact aA la | exact aA lb | exact aA (aQ la (dP _ _)) | exact aA (aQ lb (dP _ _)) | (apply aA;omega) | (apply cW;omega)
 refine ⟨_,[s1.heap.objs.size+4,s1.heap.objs.size+2,s1.heap.objs.size+3,s1.heap.objs.size,s1.heap.objs.size+1],_,_,H1,rfl,I2,ZS D,⟨.none,.none,z1,z2,z3,z4,z5⟩,λc hc=>?_,q⟩
 have hle:s1.heap.objs.size<=c:=by
  simp only [eK,fc,or_false] at hc
  rcases hc with rfl | rfl | rfl | rfl | rfl
  ·exact dP _ _
  ·exact dP _ _
  ·exact dP _ _
  ·exact aq _
  ·exact dP _ _
 exact I1.fpOk hle (I1.hok.fresh hle)
end
theorem Jf {K:ah}{t0 u0:Bool}{a b acc:Addr}{xs ys:List V}{g:TG}{ti:TT}{te:TE}{R:Hp->Prop}{σ:St}{H:Hp}(hl2:xs.length=ys.length) (Pv:Nat->St->Hp->Prop) (h0:Pv 0 σ H) (hl:∀i σ H,i<=xs.length->Pv i σ H->SqK t0 K H a xs/\SqK u0 K H b ys)
  (hs:∀i x y σ H t,xs[i]? = some x->ys[i]? = some y->Pv i σ H->H t=none->g (.ref t) σ (upd H t (.tup [x,y])) λσ3 H3=>ti σ3 H3 λok H4=>if ok=true then te σ3 H4 λv H5=>∃zs,H5 acc=some (.lst zs)/\zs.length<sizeLine/\Pv (i+1) σ3 (upd H5 acc (.lst (zs++[v]))) else Pv (i+1) σ3 H4)
  (hd:∀σ H,Pv xs.length σ H->R H) :
  ∃W:Nat->Nat->St->Hp->Prop,(∃m,W 0 m σ H)/\∀i m σ' H',W i m σ' H' ->
   ((VW K t0 u0 a b).stop i H'/\R H')\/((VW K t0 u0 a b).go i H'/\∃NX:St->Hp->Prop,(∀σ2 H2,NX σ2 H2->∃m',m'<m/\W (i+1) m' σ2 H2) /\
    ∀x H2,(VW K t0 u0 a b).yld i H' x H2->g x σ' H2 λσ3 H3=>ti σ3 H3 λok H4=>if ok=true then te σ3 H4 λv H5=>∃zs,H5 acc=some (.lst zs)/\zs.length<sizeLine/\NX σ3 (upd H5 acc (.lst (zs++[v]))) else NX σ3 H4):=by
 refine ⟨λi m σ H=>m=xs.length-i/\i<=xs.length/\Pv i σ H,⟨xs.length,by simp,aC _,h0⟩,?_⟩
 rintro i m σ H ⟨rfl,hi,p⟩
 obtain ⟨q,q2⟩:=hl i σ H hi p
 by_cases hlt:i<xs.length
 ·refine .inr ⟨⟨xs,ys,xs[i],ys[i]'∅,q,q2,by simp [hlt],aa ∅⟩,Pv (i+1),λσ' H' p'=>⟨xs.length-(i+1),∅,rfl,hlt,p'⟩,λv H' y=>?_⟩
  obtain ⟨t,x,y',rfl,hn,rfl,y1,y2⟩:=y
  exact hs i x y' σ H t (y1 xs q) (y2 ys q2) p hn
 ·have e:i=xs.length:=∅
  subst e
  exact .inl ⟨⟨xs,ys,q,q2,.inl (aq _)⟩,hd σ H p⟩
end L2
end
section
namespace L2
open PySem.W
mutual
inductive Dat (H:Hp):V->PyData->Prop
 | non:Dat H .non .none
 | bl (b:Bool):Dat H (.bl b) (.bool b)
 | int (i:Int):Dat H (.int i) (.int i)
 | str (x:Str):Dat H (.str x) (.str x)
 | tup {p:Addr} {vs:List V} {ds:List PyData}:H p=some (.tup vs)->DatL H vs ds->Dat H (.ref p) (.tuple ds)
 | lst {p:Addr} {vs:List V} {ds:List PyData}:H p=some (.lst vs)->DatL H vs ds->Dat H (.ref p) (.list ds)
inductive DatL (H:Hp):List V->List PyData->Prop
 | nil:DatL H [] []
 | cons {v:V} {vs:List V} {d:PyData} {ds:List PyData}:Dat H v d->DatL H vs ds->DatL H (v::vs) (d::ds)
end
mutual
theorem Dat.ext {M:Addr->Prop}{H H':Hp}(x:Vc M H H') (hM:∀c,M c->∀vs,H c≠some (.lst vs)/\H c≠some (.tup vs)):∀{v:V}{d:PyData},Dat H v d->Dat H' v d
 | _,_,.non=>.non
 | _,_,.bl b=>.bl b
 | _,_,.int i=>.int i
 | _,_,.str y=>.str y
 | _,_,.tup h r=>.tup (x _ _ h λz=>(hM _ z _).2 h) (DatL.ext x hM r)
 | _,_,.lst h r=>.lst (x _ _ h λz=>(hM _ z _).1 h) (DatL.ext x hM r)
theorem DatL.ext {M:Addr->Prop}{H H':Hp}(x:Vc M H H') (hM:∀c,M c->∀vs,H c≠some (.lst vs)/\H c≠some (.tup vs)):∀{vs:List V}{ds:List PyData},DatL H vs ds->DatL H' vs ds
 | _,_,.nil=>.nil
 | _,_,.cons h r=>.cons (Dat.ext x hM h) (DatL.ext x hM r)
end
theorem Dat.same {H H':Hp}{v:V}{d:PyData}(s:jn H H') (h:Dat H v d):Dat H' v d:=h.ext (M:=λ_=>False) (Vc.of_same s) (λ_ z=>z.elim)
theorem DatL.length {H:Hp}:∀{vs:List V}{ds:List PyData},DatL H vs ds->vs.length=ds.length
 | _,_,.nil=>rfl
 | _,_,.cons _ r=>congrArg Nat.succ r.length
theorem DatL.get {H:Hp}:∀{vs:List V}{ds:List PyData}{i:Nat}{v:V},DatL H vs ds->vs[i]? = some v->∃d,ds[i]? = some d/\Dat H v d
 | _,_,_,_,.nil,e=>by simp at e
 | _,_,0,_,.cons r _,e=>by simp at e;subst e;exact ⟨_,rfl,r⟩
 | _,_,i+1,v,.cons _ t,e=>by
  obtain ⟨d,h1,h2⟩:=DatL.get (i:=i) (v:=v) t (by simpa using e)
  exact ⟨d,by simpa using h1,h2⟩
noncomputable def zy:Nat->PyData->Bool
 | 0,_=>false
 | _+1,.none=>true
 | _+1,.bool _=>true
 | _+1,.int _=>true
 | _+1,.str _=>true
 | n+1,.list ds=>decide (ds.length<=1000) && ds.all (zy n)
 | n+1,.tuple ds=>decide (ds.length<=1000) && ds.all (zy n)
 | _+1,_=>false
noncomputable def Ud (n:Nat):Sp:=λvs H Q _=>∃(x y:V) (d:PyData),vs=[x,y]/\Dat H x d/\Dat H y d/\zy n d=true/\∀H',jn H H'->Q (.bl true) H'
theorem Yo {n:Nat}{ds:List PyData}(h:ds.length<=1000) (a:ds.all (zy n)=true):zy (n+1) (.list ds)=true:=by
 show (decide (ds.length<=1000) && ds.all (zy n))=true
 rw [decide_eq_true h,a];rfl
theorem QD (K:ah):bx K (.type "str") (.type "bool")=some false:=(qm K _ _).trans (by decide +kernel)
theorem Xx (K:ah):bx K (.type "str") (.type "int")=some false:=(qm K _ _).trans (by decide +kernel)
theorem kF (K:ah):bx K (.type "str") (.type "str")=some true:=(qm K _ _).trans (by decide +kernel)
end L2
end
section
namespace L2
open PySem.W
noncomputable def Two (vs:Array ag) (a0:ag):Prop:=vs[0]? = some a0/\vs[2]? = some .none
theorem Two.put {vs:Array ag}{a0:ag}(t:Two vs a0) (x:ag):Two (vs.setIfInBounds 1 x) a0 :=
 ⟨by rw [fZ ⋯];exact t.1,by rw [fZ ⋯];exact t.2⟩
theorem Vr (o:Obj) (f:Array ag->Array ag):(o.mapFields f).dict=o.dict:=by
 obtain ⟨c,d,dt,sl⟩:=o
 cases dt <;> rfl
noncomputable def OnT (h B:Heap) (e:Addr) (cls a0 fl:ag):Prop :=
 ∃oe vs T oT ts,h.get? e=some oe/\(oe.cls=cls/\Two vs a0/\oe.dict=none)/\oe.data = .fields vs/\vs[1]? = some (.ref T)/\B.get? T=none/\T≠e/\h.get? T=some oT/\oT.data = .fields ts/\ts[3]? = some fl
section
variable {M:t6}{A:bj}{E:ag->Shared->Prop}{s:Shared}{B:Heap}{env:Env}{outer l:List Env}{L e:Addr}{cls a0 fl:ag}{Q:Unit->Shared->Prop}
theorem wZ (st:B.StaysIn s.heap) (fu:s.heap.FunFrames B l) (on:OnT s.heap B e cls a0 fl)
  (k:∀g,B.StaysIn g->g.FunFrames B l->OnT g B e cls a0 .none->(∀b o,s.heap.get? b=some o->(∀vs,o.data≠.fields vs)->g.get? b=some o)->Q () { s with heap:=g }):ay M A (setFlight (.ref e) none) Q E s:=by
 obtain ⟨oe,vs,T,oT,ts,ge,gc,gd,g1,gB,gn,gT,gD,g3⟩:=on
 have z3:3<ts.size:=(Array.getElem?_eq_some_iff.mp g3).1
 have ot:∀b,b≠T->(s.heap.update T (ic (·.setIfInBounds 3 ((none:Option Addr).elim b8 λf=>bU f)))).get? b=s.heap.get? b:=λb hb =>
  cz _ _ hb.symm
 have nr:∀{b o},s.heap.get? b=some o->(∀vs,o.data≠.fields vs)->b≠T:=λhb hn q=>by
  rw [q,gT] at hb
  cases hb
  exact hn ts gD
 unfold setFlight
 refine ae (bM ge gd g1 ?_)
 rw [if_pos (by simp)]
 refine fR gT gD z3 (k _ (λb o hb=>?_) (fu.of_keeps λb o hb hn=>⟨o,?_,rfl⟩) ?_ λb o hb hn=>?_)
 ·rw [ot b λq=>by rw [q,gB] at hb;cases hb]
  exact st b o hb
 ·rw [ot b (nr hb hn)]
  exact hb
 ·refine ⟨oe,vs,T,_,_,?_,gc,gd,g1,gB,gn,eM _ gT (eN (ee gD _)),ee gD _,by simp [z3]⟩
  rw [ot e gn.symm]
  exact ge
 ·rw [ot b (nr hb hn)]
  exact hb
theorem Xe {oe:Obj}{vs:Array ag}{head:ag}{nx:Bool}(fr:A.frames=some (env::outer)) (fu:s.heap.FunFrames B (env::outer)) (hL:env.frame=some L) (ge:s.heap.get? e=some oe) (st:B.StaysIn s.heap) (ne:B.get? e=none) (gd:oe.data = .fields vs)
  (z1:1<vs.size) (tw:Two vs a0) (dn:oe.dict=none) (k:∀g,B.StaysIn g->g.FunFrames B (env::outer)->OnT g B e oe.cls a0 (bU L)->s.heap.UpToSlots g->Q () { s with heap:=g }) :
  ay M A (do let a <- frameOf env;let pl <- entryPlaceOf L nx;let b <- nk head a .none (bU L) .none pl;setField (.ref e) 1 b) Q E s:=by
 have out:e∉(env::outer).filterMap (·.frame):=λq=>by
  obtain ⟨_,o,ho,hn⟩:=fu.mem q
  rw [ge] at ho
  cases ho
  exact hn vs gd
 refine ae (wpAny_frameOf_fun fr fu hL λg1 so=>?_)
 refine ae (wpAny_entryPlaceOf λpl sh=>?_)
 unfold nk newFields
 refine ae (c9 ?_ (sh.sizeOk5 _ _ _ _ _))
 have e1:g1.get? e=some oe:=(so.2.1 e out).trans ge
 have s1:B.StaysIn g1:=λb o hb=>(so.2.1 b λq=>by rw [(fu.mem q).1] at hb;cases hb).trans (st b o hb)
 generalize hnew:({ cls:=.type "traceback",dict:=none,data:=.fields ([head,.ref L,.none,bU L,.none]++(if pl.isEmpty then df 6 b8 else pl)).toArray }:Obj)=new
 have nd:new.data = .fields ([head,.ref L,.none,bU L,.none]++(if pl.isEmpty then df 6 b8 else pl)).toArray:=by rw [<- hnew]
 have e2:=ai (h:=g1) new e1
 refine fR e2 gd z1 ?_
 have Te:g1.objs.size≠e:=cW (aw e1)
 have d3:=ee gd (·.setIfInBounds 1 (aS g1.objs.size))
 have e3:=eM (ic (·.setIfInBounds 1 (aS g1.objs.size))) e2 (eN d3)
 have T3:((g1.push new).update e (ic (·.setIfInBounds 1 (aS g1.objs.size)))).get? g1.objs.size=some new:=by
  rw [cz _ _ Te.symm]
  exact az g1 (eN nd)
 have kp:∀{b o},b≠e->g1.get? b=some o->((g1.push new).update e (ic (·.setIfInBounds 1 (aS g1.objs.size)))).get? b=some o:=λhb q=>by
  rw [cz _ _ hb.symm]
  exact ai _ q
 have nr:∀{b o},s.heap.get? b=some o->(∀vs,o.data≠.fields vs)->b≠e:=λhb hn q=>by
  rw [q,ge] at hb
  cases hb
  exact hn vs gd
 refine k _ (λb o hb=>kp (λq=>by rw [q,ne] at hb;cases hb) (s1 b o hb)) (fu.of_keeps λb o hb hn=>?_) ?_ λb o hb hn=>?_
 ·obtain ⟨sl,hs⟩:=so.2.2 b o hb
  exact ⟨_,kp (nr hb hn) hs,rfl⟩
 ·exact ⟨_,_,g1.objs.size,_,_,e3,⟨oJ _ _,tw.put _,(Vr _ _).trans dn⟩,d3,by simp [z1],s1.fresh,Te,T3,nd,by first | (simp;done) | (rcases sh with rfl | ⟨_,_,_,_,_,_,_,rfl⟩ <;> simp)⟩
 ·obtain ⟨sl,hs⟩:=so.2.2 b o hb
  exact ⟨sl,kp (nr hb hn) hs⟩
theorem UG (fr:A.frames=some (env::outer)) (fu:s.heap.FunFrames B (env::outer)) (hL:env.frame=some L) (on:OnT s.heap B e cls a0 .none) (st:B.StaysIn s.heap) (ne:B.get? e=none)
  (k:∀g,B.StaysIn g->g.FunFrames B (env::outer)->OnT g B e cls a0 (bU L)->s.heap.UpToSlots g->Q () { s with heap:=g }):ay M A (iL (.ref e) env) Q E s:=by
 obtain ⟨oe,vs,T,oT,ts,ge,⟨rfl,tw,dn⟩,gd,g1,gB,gn,gT,gD,g3⟩:=on
 unfold iL
 simp only [hL]
 refine ae (bM ge gd g1 ?_)
 rw [if_pos (by simp)]
 refine ae (bM gT gD g3 ?_)
 rw [if_neg (by simp [bU])]
 refine ae (fR gT gD (Array.getElem?_eq_some_iff.mp g3).1 ?_)
 have ot:∀b,b≠T->(s.heap.update T (ic (·.setIfInBounds 3 b8))).get? b=s.heap.get? b:=λb hb =>
  cz _ _ hb.symm
 have nr:∀{b o},s.heap.get? b=some o->(∀vs,o.data≠.fields vs)->b≠T:=λhb hn q=>by
  rw [q,gT] at hb
  cases hb
  exact hn ts gD
 refine Xe (oe:=oe) (vs:=vs) (a0:=a0) fr (fu.of_keeps λb o hb hn=>⟨o,?_,rfl⟩) hL ?_ (λb o hb=>?_) ne gd (Array.getElem?_eq_some_iff.mp g1).1 tw dn λg k1 k2 k3 k4=>k g k1 k2 k3 λb o hb hn=>?_
 ·exact (ot b (nr hb hn)).trans hb
 ·exact (ot e gn.symm).trans ge
 ·exact (ot b λq=>by rw [q,gB] at hb;cases hb).trans (st b o hb)
 ·exact k4 b o ((ot b (nr hb hn)).trans hb) hn
theorem Vz (fr:A.frames=some (env::outer)) (fu:s.heap.FunFrames B (env::outer)) (hL:env.frame=some L) (on:OnT s.heap B e cls a0 .none) (st:B.StaysIn s.heap) (ne:B.get? e=none)
  (k:∀g,B.StaysIn g->g.FunFrames B (env::outer)->OnT g B e cls a0 .none->s.heap.UpToSlots g->Q () { s with heap:=g }):ay M A (n5 env (.ref e)) Q E s:=by
 unfold n5
 refine ae (UG fr fu hL on st ne λg k1 k2 k3 k4=>?_)
 exact wZ (s:={ s with heap:=g }) k1 k2 k3 λg' m1 m2 m3 m4=>k g' m1 m2 m3 (k4.trans λb o hb hn=>⟨o.slots,m4 b o hb hn⟩)
theorem XS {h:Heap}{args:List ag}(fr:A.frames=some (env::outer)) (hL:env.frame=some L) (st:B.StaysIn h) (fu:h.FunFrames B (env::outer)) (hx:mS h s.heap e cls args)
  (k:∀g t,B.StaysIn g->g.FunFrames B (env::outer)->OnT g B e cls (.ref t) .none->B.get? e=none->s.heap.UpToSlots g->Q () { s with heap:=g }):ay M A (n5 env (.ref e)) Q E s:=by
 obtain ⟨t,ge,tn,gt⟩:=hx.there
 have new:B.get? e=none:=by
  cases q:B.get? e with
  | none=>rfl
  | some o =>
   have:=st e o q
   rw [hx.new] at this
   cases this
 unfold n5 iL
 simp only [hL]
 refine ae (ae (bM (x:=.none) ge rfl rfl ?_))
 rw [if_neg ⋯]
 refine Xe (a0:=.ref t) fr (fu.of_keeps λb o hb _=>⟨o,hx.keeps b o hb,rfl⟩) hL ge (λb o hb=>hx.keeps b o (st b o hb)) new rfl (by simp) ⟨rfl,rfl⟩ rfl λg k1 k2 k3 k4=>?_
 exact wZ (s:={ s with heap:=g }) k1 k2 k3 λg' m1 m2 m3 m4=>k g' t m1 m2 m3 new (k4.trans λb o hb hn=>⟨o.slots,m4 b o hb hn⟩)
end
end L2
end
section
namespace L2
open PySem.W
structure Fly (g:Heap) (H:Hp) (h:Heap) (a:Addr) (cls fl:ag):Prop where
 na:g.get? a=none
 ha:H a=none
 ob:∃oe vs T oT ts a0,h.get? a=some oe/\(oe.cls=cls/\Two vs a0/\oe.dict=none)/\oe.data = .fields vs/\vs[1]? = some (.ref T)/\g.get? T=none/\H T=none/\T≠a/\h.get? T=some oT/\oT.data = .fields ts/\ts[3]? = some fl
theorem Fly.mono {g g':Heap}{H:Hp}{h:Heap}{a:Addr}{cls fl:ag}(f:Fly g H h a cls fl) (l:∀b o,g'.get? b=some o->∃o',g.get? b=some o'):Fly g' H h a cls fl:=by
 have no:∀{b},g.get? b=none->g'.get? b=none:=λ{b} e=>by
  cases q:g'.get? b with
  | none=>rfl
  | some o =>
   obtain ⟨o',e'⟩:=l b o q
   rw [e] at e'
   cases e'
 obtain ⟨oe,vs,T,oT,ts,a0,h1,h2,h3,h4,h5,h6⟩:=f.ob
 exact ⟨no f.na,f.ha,oe,vs,T,oT,ts,a0,h1,h2,h3,h4,no h5,h6⟩
noncomputable def CX1 (P:Program) (w:b9):CXT:=λouter H s E e s' =>
 ∃a cls H',e = .ref a/\s'.os=s.os/\i9 s'.gens/\Un (frs outer) [] H H' s.heap s'.heap/\HOk P w H' s'.heap/\Fly s.heap H' s'.heap a cls .none/\E cls none H'
noncomputable def yc (X:Cx) (pins:List (Addr×Obj)) (σ:St) (H':Hp) (s1:Shared) (a:Addr) (cls fl:ag):Prop :=
 ∃s H,Inv X pins σ H s/\s1.os=s.os/\i9 s1.gens/\Un (frs X.stack) [] H H' s.heap s1.heap/\HOk X.prog X.w H' s1.heap/\Fly s.heap H' s1.heap a cls fl
theorem ko {P:Program}{w:b9}{H:Hp}{h:Heap}{a:Addr}{o:HO}(x:qi P w H h a o):∃ob,h.get? a=some ob:=by
 cases o with
 | lst xs=>obtain ⟨_,_,_,_,e⟩:=x;exact ⟨_,e⟩
 | tup xs=>obtain ⟨_,_,_,ob,e,_⟩:=x;exact ⟨_,e⟩
 | dK kvs=>obtain ⟨_,_,_,_,ob,_,_,e,_⟩:=x;exact ⟨_,e⟩
 | dT kvs=>obtain ⟨_,_,_,_,ob,_,_,e,_⟩:=x;exact ⟨_,e⟩
 | set S n=>obtain ⟨ob,_,_,_,e,_⟩:=x;exact ⟨_,e⟩
 | ins C dx fs=>obtain ⟨_,_,_,e,_⟩:=x;exact ⟨_,e⟩
 | own y=>exact x
 | xd fs=>obtain ⟨_,⟨_,_,_,e,_⟩,_⟩:=x;exact ⟨_,e⟩
 | rng lo hi=>obtain ⟨_,_,_,e⟩:=x;exact ⟨_,e⟩
 | frz ob u=>obtain ⟨e,_⟩:=x;exact ⟨_,e⟩
 | tbl ps=>exact ⟨_,(show h.get? a=some _ from x)⟩
 | met f y=>exact ⟨_,(show h.get? a=some _ from x)⟩
 | ext φ=>obtain ⟨_,e,_⟩:=x;exact e
section
variable {X:Cx}{pins:List (Addr×Obj)}{σ:St}{H H':Hp}{s s1:Shared}{a:Addr}{cls fl:ag}
theorem yc.inv (f:yc X pins σ H' s1 a cls fl):Inv X pins σ H' s1:=by
 obtain ⟨s,H,I,os,b,u,ok,fy⟩:=f
 exact I.call' os u ok b (λb z=>absurd z (by simp))
theorem yc.fly (hex:X.ex=[]) (f:yc X pins σ H' s1 a cls fl):Fly X.s₀.heap H' s1.heap a cls fl:=by
 obtain ⟨s,H,I,os,b,u,ok,fy⟩:=f
 exact fy.mono λc o e=>I.base.there c o e (by rw [hex];exact λz=>by cases z)
theorem yc.under (f:yc X pins σ H' s1 a cls .none):∃B a0,(B.StaysIn s1.heap/\B.get? a=none/\s1.heap.FunFrames B X.stack/\OnT s1.heap B a cls a0 .none) /\
  ∀h2 fl2,B.StaysIn h2->s1.heap.UpToSlots h2->OnT h2 B a cls a0 fl2->yc X pins σ H' { s1 with heap:=h2 } a cls fl2:=by
 have I1:=f.inv
 obtain ⟨s,H,I,os,b,u,ok,fy⟩:=f
 obtain ⟨oe,vs,T,oT,ts,a0,h1,h2,h3,h4,h5,h6,h7,h8,h9,h10⟩:=fy.ob
 have fr:=I1.stack
 have fs:∀b∈frs X.stack,b≠a/\b≠T:=λb hb=>by
  obtain ⟨_,o,ho,hn⟩:=fr.mem hb
  refine ⟨λz=>?_,λz=>?_⟩
  ·rw [z,h1] at ho;cases ho;exact hn _ h3
  ·rw [z,h8] at ho;cases ho;exact hn _ h9
 have in_:∀env∈X.stack,∀c,env.frame=some c->c∈a::T::frs X.stack:=λenv he c hc=>aE _ (aE _ (List.mem_filterMap.mpr ⟨env,he,hc⟩))
 have noB:∀{c o},s1.heap.get? c=some o->c≠a->c≠T->c∉frs X.stack->(hideAll s1.heap (a::T::frs X.stack)).get? c=some o:=λe n1 n2 n3 =>
  hideAll_get _ e (by simp only [eK,not_or];exact ⟨n1,n2,n3⟩)
 refine ⟨hideAll s1.heap (a::T::frs X.stack),a0,⟨λb o q=>of_hideAll _ q,hideAll_none _ (.head _),rW fr in_,oe,vs,T,oT,ts,h1,h2,h3,h4,hideAll_none _ (.tail _ (.head _)),h7,h8,h9,h10⟩,λhp fl2 st up tr=>?_⟩
 have lo:∀{c o},s.heap.get? c=some o->c≠a/\c≠T:=λ{c o} e=>⟨λz=>(by rw [z,fy.na] at e;cases e),λz=>(by rw [z,h5] at e;cases e)⟩
 have frn:∀{c o},s1.heap.get? c=some o->c∈frs X.stack->∀vs,o.data≠.fields vs:=λe hc=>by
  obtain ⟨_,o',ho,hn⟩:=fr.mem hc
  rw [e] at ho;cases ho;exact hn
 refine ⟨s,H,I,os,b,⟨λc o e n nf nx=>?_,λc o e n hf nx=>?_,λc o e n nx=>u.free c o e n nx,λc o e nx=>?_,u.tups,u.frzs,u.tbls⟩,λc o hc=>?_,?_⟩
 ·exact st _ _ (noB (u.keep c o e n nf nx) (lo e).1 (lo e).2 nf)
 ·obtain ⟨sl,e1⟩:=u.slot c o e n hf nx
  obtain ⟨sl2,e2⟩:=up c _ e1 (frn e1 hf)
  exact ⟨sl2,e2⟩
 ·obtain ⟨o1,e1⟩:=u.there c o e nx
  by_cases hf:c∈frs X.stack
  ·obtain ⟨sl2,e2⟩:=up c _ e1 (frn e1 hf)
   exact ⟨_,e2⟩
  ·exact ⟨o1,st _ _ (noB e1 (lo e).1 (lo e).2 hf)⟩
 ·refine (ok c o hc).stay (λc' o' hc' e=>?_) (λ_ e=>e) λ_ _ e=>e
  have hne:H' c'≠none:=by
   rcases hc' with z | z
   ·rw [z,hc];exact λy=>by cases y
   ·rw [z];exact λy=>by cases y
  exact st _ _ (noB e (λz=>hne (by rw [z];exact fy.ha)) (λz=>hne (by rw [z];exact h6)) λz=>hne (I1.stkFree _ z))
 ·obtain ⟨oe2,vs2,T2,oT2,ts2,g1,g2,g3,g4,g5,g6,g7,g8,g9⟩:=tr
  have key:T2=T\/s1.heap.get? T2=none:=by
   cases q:s1.heap.get? T2 with
   | none=>exact .inr rfl
   | some o =>
    refine .inl ?_
    by_cases hT:T2=T
    ·exact hT
    ·by_cases hf:T2∈frs X.stack
     ·obtain ⟨sl2,e2⟩:=up T2 _ q (frn q hf)
      rw [e2] at g7
      cases g7
      exact absurd g8 (frn q hf _)
     ·have:=noB q g6 hT hf
      rw [g5] at this
      cases this
  refine ⟨fy.na,fy.ha,oe2,vs2,T2,oT2,ts2,a0,g1,g2,g3,g4,?_,?_,g6,g7,g8,g9⟩
  ·rcases key with z | z
   ·rw [z];exact h5
   ·cases q:s.heap.get? T2 with
    | none=>rfl
    | some o =>
     obtain ⟨o',e'⟩:=u.there T2 o q (by simp)
     rw [z] at e'
     cases e'
  ·rcases key with z | z
   ·rw [z];exact h6
   ·cases q:H' T2 with
    | none=>rfl
    | some o =>
     obtain ⟨o',e'⟩:=ko (ok T2 o q)
     rw [z] at e'
     cases e'
theorem yc.leave {Q:Unit->Shared->Prop}{E:ag->Shared->Prop}(f:yc X pins σ H' s1 a cls .none) (st:X.stack=X.env::X.outer) (hf:X.env.frame=some X.env.locals)
  (k:∀h2,yc X pins σ H' { s1 with heap:=h2 } a cls .none->Q () { s1 with heap:=h2 }):ay (aD X.prog X.w) X.A (n5 X.env (.ref a)) Q E s1:=by
 obtain ⟨B,a0,fw,up⟩:=f.under
 have fr:X.A.frames=some (X.env::X.outer):=by rw [<- st];exact f.inv.ok.frames
 rw [st] at fw
 obtain ⟨f1,f2,f3,f4⟩:=fw
 exact Vz fr f3 hf f4 f1 f2 λh2 k1 k2 k3 k4=>k h2 (up h2 .none k1 k4 k3)
theorem Xq {vs:List ag}{h1:Heap}{Q:Unit->Shared->Prop}{E:ag->Shared->Prop}(I:Inv X pins σ H s) (hx:mS s.heap h1 a cls vs) (st:X.stack=X.env::X.outer) (hf:X.env.frame=some X.env.locals)
  (k:∀h2,yc X pins σ H { s with heap:=h2 } a cls .none->Q () { s with heap:=h2 }):ay (aD X.prog X.w) X.A (n5 X.env (.ref a)) Q E { s with heap:=h1 }:=by
 have fr:X.A.frames=some (X.env::X.outer):=by rw [<- st];exact I.ok.frames
 have fun0:=I.stack
 have in_:∀env∈X.stack,∀c,env.frame=some c->c∈frs X.stack:=λenv he c hc=>List.mem_filterMap.mpr ⟨env,he,hc⟩
 have fun1:=rW fun0 in_
 have frn:∀{c o},s.heap.get? c=some o->c∈frs X.stack->∀vs,o.data≠.fields vs:=λe hc=>by
  obtain ⟨_,o',ho,hn⟩:=fun0.mem hc
  rw [e] at ho;cases ho;exact hn
 rw [st] at fun1
 refine XS (s:={ s with heap:=h1 }) (B:=hideAll s.heap (frs (X.env::X.outer))) (h:=s.heap) fr hf (λb o q=>of_hideAll _ q) fun1 hx λh2 t b1 b2 fw b3 up=>?_
 rw [<- st] at fw b1
 obtain ⟨oe,ws,T,oT,ts,g1,g2,g3,g4,g5,g6,g7,g8,g9⟩:=fw
 have keepB:∀{c o},s.heap.get? c=some o->c∉frs X.stack->h2.get? c=some o:=λe n=>b1 _ _ (hideAll_get _ e n)
 have slotB:∀{c o},s.heap.get? c=some o->c∈frs X.stack->∃sl,h2.get? c=some { o with slots:=sl }:=λ{c o} e hc=>up c o (hx.keeps _ _ e) (frn e hc)
 have nT:s.heap.get? T=none:=by
  cases q:s.heap.get? T with
  | none=>rfl
  | some o =>
   exfalso
   by_cases hc:T∈frs X.stack
   ·obtain ⟨sl,e⟩:=slotB q hc
    rw [e] at g7
    cases g7
    exact frn q hc _ g8
   ·rw [hideAll_get _ q hc] at g5
    cases g5
 have hn:∀{c},s.heap.get? c=none->H c=none:=λ{c} e=>by
  cases q:H c with
  | none=>rfl
  | some o =>
   obtain ⟨o',e'⟩:=ko (I.hok c o q)
   rw [e] at e'
   cases e'
 refine k h2 ⟨s,H,I,rfl,I.bare,⟨λc o e n nf nx=>keepB e nf,λc o e n hf nx=>slotB e hf,λc o e n nx=>n,λc o e nx=>?_,λ_ _ e=>e,λ_ _ _ e=>e,λc ps e=>⟨#[],by rw [e];simp⟩⟩,λc o hc=>?_,hx.new,hn hx.new,oe,ws,T,oT,ts,.ref t,g1,g2,g3,g4,nT,hn nT,g6,g7,g8,g9⟩
 ·by_cases hc:c∈frs X.stack
  ·obtain ⟨sl,e2⟩:=slotB e hc
   exact ⟨_,e2⟩
  ·exact ⟨o,keepB e hc⟩
 ·refine (I.hok c o hc).stay (λc' o' hc' e=>?_) (λ_ e=>e) λ_ _ e=>e
  refine keepB e λz=>?_
  have:=I.stkFree _ z
  rcases hc' with y | y
  ·rw [y,hc] at this;cases this
  ·rw [y] at this;cases this
end
noncomputable def Acc (X:Cx) (J:ag->St->Hp->Prop):Prop:=∀(pins:List (Addr×Obj)) (σ:St) (H':Hp) (s1:Shared) (a:Addr) (cls:ag),yc X pins σ H' s1 a cls .none->J cls σ H'->X.xe (.ref a) s1
noncomputable def WL (sp:Sp) (J:ag->St->Hp->Prop) (t:TA):TE:=λσ H Q=>t σ H λvs H1=>sp vs H1 Q λcls _ H'=>J cls σ H'
structure CalX (P:Program) (w:b9) (K:ah) (mg:Str->Option ag) (base:Heap) (k:Nat) (x:Str) (ps:List Str) (sp:Sp):Prop where
 ex:∃f fd,FnOk P w K mg base (CX1 P w) k f fd ps sp/\yE K fd ps []/\mg x=some (.ref f)/\bV K (.ref f)=true
theorem zi {X:Cx}{k:Nat}{x:Str}{ps:List Str}{sp:Sp}{e:Expr}{es:List Expr}{t:TA}{p pos:Pos}{J:ag->St->Hp->Prop}(c:CalX X.prog X.w X.K X.mg X.base k x ps sp) (hr:Room k X.A) (ac:Acc X J) (hg:Gl X x) (ha:PA X (e::es) t)
  (hdb:(x == ("__debug__" : Str))=false:=by decide) (he:aO (e::es) X.env=(false,eval e X.env)::aO es X.env:=by rfl) (hpl:(cH pos (aO es X.env)).any (·.1)=false:=by rfl) :
  PE X (.Call (.Name x p) (e::es) [] pos) (WL sp J t):=by
 obtain ⟨f,fd,F,hb,hm,hk⟩:=c.ex
 intro pins s σ H Q I h
 refine de (uc I hg hm ?_ hdb)
 refine dZ (h₀:=X.base) I.ok.mod.kin hk (thn (ha pos pins s σ H _ I h) λus s1 ⟨vs,H1,I1,r,q⟩=>⟨I1.kIn,?_⟩) he hpl
 have hl:us.length=ps.length:=by rw [<- r.length];exact F.len _ _ _ _ q
 have hb':=hb s1 us I1.kIn (by rw [aM];exact hl)
 rw [aM] at hb'
 refine lT (dz (F.run X.A X.stack s1 H1 ⟨us,[]⟩ us vs Q _ hr I1.env0 hb' r q) λr s' hq=>?_)
 cases r with
 | error e =>
  obtain ⟨a,cls,H',rfl,os,b,u,ok,fy,j⟩:=hq
  exact ac pins σ H' s' a cls ⟨s1,H1,I1,os,b,u,ok,fy⟩ j
 | ok fl =>
  cases fl with
  | ret u=>exact I1.after hq
  | next=>exact bC hq
  | brk=>exact bC hq
  | cont=>exact bC hq
theorem CalX.cal {P:Program}{w:b9}{K:ah}{mg:Str->Option ag}{base:Heap}{k:Nat}{x:Str}{ps:List Str}{sp:Sp}(c:CalX P w K mg base k x ps sp):Cal P w K mg base k x ps (λvs H Q _=>sp vs H Q E0):=by
 obtain ⟨f,fd,F,hb,hm,hk⟩:=c.ex
 refine ⟨f,fd,⟨λvs H Q E h=>F.len vs H Q E0 h,λA outer s H args us vs Q E hr he hb hv hs=>dz (F.run A outer s H args us vs Q E0 hr he hb hv hs) λr s' q=>?_⟩,hb,hm,hk⟩
 cases r with
 | error e =>
  obtain ⟨a,cls,H',_,_,_,_,_,_,j⟩:=q
  exact bC j
 | ok fl =>
  cases fl with
  | ret u=>exact q
  | next=>exact q
  | brk=>exact q
  | cont=>exact q
theorem qM {P:Program}{w:b9}{K:ah}{mg:Str->Option ag}{base:Heap}{N:List Str}{qual:Str}{scope:Scope}{f:Addr}{cd:ag}{A:bj}{outer:List Env}{s:Shared}{H:Hp}{E:XK} :
  Acc (vW (CX1 P w) P w K mg base N qual scope f cd A outer s H E) λcls _ H'=>E cls none H':=by
 intro pins σ H' s1 a cls fl j
 refine yc.leave (X:=vW (CX1 P w) P w K mg base N qual scope f cd A outer s H E) fl rfl rfl λh2 f2=>?_
 exact ⟨a,cls,H',rfl,f2.inv.os,f2.inv.bare,f2.inv.base,f2.inv.hok,f2.fly rfl,j⟩
noncomputable def GF (X:Cx) (J:ag->St->Hp->Prop):Prop:=∀(pins:List (Addr×Obj)) (σ:St) (H:Hp) (s:Shared) (h1:Heap) (a:Addr) (cls:ag) (vs:List ag),Inv X pins σ H s->mS s.heap h1 a cls vs->J cls σ H->X.xe (.ref a) { s with heap:=h1 }
theorem zd {P:Program}{w:b9}{K:ah}{mg:Str->Option ag}{base:Heap}{N:List Str}{qual:Str}{scope:Scope}{f:Addr}{cd:ag}{A:bj}{outer:List Env}{s:Shared}{H:Hp}{E:XK} :
  GF (vW (CX1 P w) P w K mg base N qual scope f cd A outer s H E) λcls _ H'=>E cls none H':=by
 intro pins σ H' s1 h1 a cls vs I hx j
 refine Xq (X:=vW (CX1 P w) P w K mg base N qual scope f cd A outer s H E) I hx rfl rfl λh2 f2=>?_
 exact ⟨a,cls,H',rfl,f2.inv.os,f2.inv.bare,f2.inv.base,f2.inv.hok,f2.fly rfl,j⟩
theorem G1 {K:ah}{h:Heap}{C:Addr}{bmB:List ag}{newId:String}(X:K.In h) (q:excIn K C bmB newId=true) :
  ∃bm N nm q bs hdct sn sub ab col dd k0 k1 k2 k3 k5 mN,h.get? C=some (excClassObj nm q C N bs bm hdct sn sub ab col dd k0 k1 k2 k3 k5 newId)/\h.Ns N mN/\mN "__init__" = none/\OwnTail h bmB bm:=by
 unfold excIn at q
 split at q
 ·rename_i dd cd sl ho
  split at q
  ·rename_i C' bm k0 k1 k2 k3 n k5 em es
   simp only [bf,beq_iff_eq,Bool.not_eq_true'] at q
   obtain ⟨⟨⟨⟨⟨rfl,rfl⟩,e1⟩,e2⟩,e3⟩,e4⟩:=q
   obtain ⟨nm,bs,mro,ns,qn,hd,sn,sub,ab,col,del⟩:=cd
   dsimp only at em e1 e3 e4
   subst em e1
   have e5:sl = #[k0,k1,k2,k3,some (.builtin n),k5]:=by obtain ⟨l⟩:=sl;simp only at es;rw [es]
   subst e5
   exact ⟨bm,ns,nm,qn,bs,hd,sn,sub,ab,col,dd,k0,k1,k2,k3,k5,_,X _ _ ho,.of_isNs (isNs_of_in X e3),nsMap_none_of_in X e3 e4,tail_of_in X e2⟩
  ·cases q
 ·cases q
theorem xy {X:Cx}{x:Str}{np cpos pos:Pos}{e:Expr}{es:List Expr}{t:TA}{C:Addr}{B newId initId:String}{bmB:List ag}{J:ag->St->Hp->Prop}(FB:ExcBaseFacts B newId initId bmB) (O:excIn X.K C bmB newId=true) (hm:X.mg x=some (.ref C)) (hc:X.calm=true) (am:GF X J)
  (hg:Gl X x) (ha:PA X (e::es) t) (hdb:(x == ("__debug__" : Str))=false:=by decide) (he:aO (e::es) X.env=(false,eval e X.env)::aO es X.env:=by rfl) (hpl:(cH cpos (aO es X.env)).any (·.1)=false:=by rfl) :
  PS X (.Raise (some (.Call (.Name x np) (e::es) [] cpos)) none pos) (λD σ H=>t σ H λvs H1=>vs.length<=sizeLine/\J (.ref C) σ H1):=by
 intro pins s σ H D I h
 obtain ⟨bm,N,nm,q,bs,hdct,sn,sub,ab,col,dd,k0,k1,k2,k3,k5,mN,hC,hN,hni,T⟩:=G1 I.ok.mod.kin O
 have h':=ha cpos pins s σ H _ I h
 rw [he] at h'
 refine wpAny_Raise_call_subT (C:=C) (nm:=nm) (q:=q) (N:=N) (bs:=bs) (bm:=bm) (hdct:=hdct) (sn:=sn) (sub:=sub) (ab:=ab) (col:=col) (dd:=dd) (k0:=k0) (k1:=k1) (k2:=k2) (k3:=k3) (k5:=k5)
  FB (mN:=mN) (T.hasType FB.hasBase) (I.ok.hd hc) (by rw [he];show (false || (cH cpos (aO es X.env)).any (·.1))=false;rw [hpl];rfl) hni (uc I hg hm ⟨rfl,?_⟩ hdb)
 rw [he]
 refine ij (thn h' λus s2 ⟨vs,H2,I2,r,hl,j⟩=>⟨rfl,by rw [<- r.length];exact hl,I2.bk _ _ hC,hN.keeps I2.bk,T.keeps I2.bk,λh1 a hx=>am pins σ H2 s2 h1 a (.ref C) _ I2 hx j⟩)
theorem Fun.okX {P:Program}{w:b9}{K:ah}{mg:Str->Option ag}{base:Heap}{x qual:Str}{st:Stmt}{f:Addr}{fd:FuncData}{N ps:List Str}{k:Nat}{sp:Sp}(F:Fun K x qual st f fd) (S:FnScope N ps (j8 st)) (len:∀vs H Q E,sp vs H Q E->vs.length=ps.length)
  (hbody:∀(cdv:ag) (A:bj) (outer:List Env) (s:Shared) (H:Hp) (vs:List V) (Q:VK) (E:XK),Room k (A.deeper (lu qual (j8 st) s.heap.objs.size f cdv))->sp vs H Q E ->
   ∃t,PSs (vW (CX1 P w) P w K mg base N qual (j8 st) f cdv A outer s H E) (jT st) t/\t { nx:=λ_ H'=>Q .non H',rt:=Q } (start N vs) H):FnOk P w K mg base (CX1 P w) (k+1) f fd ps sp:=by
 obtain ⟨oc,od,kV,doc,pm,an,cdv,ct,osl,rfl,lk,hcd⟩:=F.ex
 exact Vu lk hcd S len λA outer s H vs Q E hr hsp=>hbody cdv A outer s H vs Q E hr hsp
theorem CalX.mk' {P:Program}{w:b9}{K:ah}{mg:Str->Option ag}{base:Heap}{k:Nat}{x:Str}{ps:List Str}{sp:Sp}{st:Stmt}{h:Heap}{f:Addr}{oc:ag}{od an:Option Addr}{osl:Array (Option ag)}{kV doc pm cdv ct:ag}
  (X:K.In h) (G:h.Ns mainGlobals mg) (a:aU K mainGlobals x=some (some (.ref f)))
  (l:K.lookup f=some ⟨oc,od,.func (bD x x (qg st) (jT st) (j8 st) .none kV doc pm an cdv ct),osl⟩) (c:cx K cdv x=true) (k':bV K (.ref f)=true)
  (hb:∀(kV doc pm:ag) (an:Option Addr) (cdv ct:ag) (us:List ag),us.length=ps.length->cw (bD x x (qg st) (jT st) (j8 st) .none kV doc pm an cdv ct) ⟨us,[]⟩=pure (ps.zip us))
  (ok:∀{f:Addr} {fd:FuncData},Fun K x x st f fd->FnOk P w K mg base (CX1 P w) k f fd ps sp):CalX P w K mg base k x ps sp:=by
 have F:=vU (st:=st) l c k'
 exact ⟨f,_,ok F,F.binds hb,bw X G a,k'⟩
end L2
end
section
namespace L2
open PySem.W
section
variable {X:Cx}{pins pn:List (Addr×Obj)}{σ:St}{H:Hp}{s:Shared}{J:ag->St->Hp->Prop}
theorem okP (ok:X.Ok) (Y:Cx) (h:Y={ X with pn:=Y.pn,xe:=Y.xe }):Y.Ok:=by
 rw [h]
 exact ⟨ok.mod,ok.kind,ok.glob,ok.blt,ok.above,ok.inj,ok.has,ok.cab,ok.hd,ok.frames,ok.stk,ok.exf,ok.bs,ok.bsz,ok.noex,ok.exfs,ok.funs,ok.frf⟩
theorem spOf {Y:Cx}{pins':List (Addr×Obj)}{D:Ends}{f:Flow}{s':Shared}(g:∀{σ H},Inv Y pins' σ H s'->Inv X pins σ H s') (h:SP Y pins' D f s'):SP X pins D f s':=by
 cases f with
 | next=>obtain ⟨σ',H',I,q⟩:=h;exact ⟨σ',H',g I,q⟩
 | brk=>obtain ⟨σ',H',I,q⟩:=h;exact ⟨σ',H',g I,q⟩
 | cont=>obtain ⟨σ',H',I,q⟩:=h;exact ⟨σ',H',g I,q⟩
 | ret u=>obtain ⟨v,σ',H',I,r,q⟩:=h;exact ⟨v,σ',H',g I,r,q⟩
end
end L2
end
section
namespace L2
open PySem.W
section
variable {s:Shared}{A:bj}{prog:Program}{w:b9}{E:ag->Shared->Prop}
end
section
variable {X:Cx}
end
end L2
end
section
namespace L2
open PySem.W
end L2
end
section
namespace L2
open PySem.W
section
variable {X:Cx}{o e:Expr}{es:List Expr}{to:TE}{t:TA}{name:Str}{apos cpos:Pos}{id:String}{r:V->List V->Hp->VK->Prop}
end
end L2
end
section
namespace L2
open PySem.W
noncomputable abbrev wB (ifs:List Expr) (env:Env):Sem Bool:=sR ifs true λc r=>if r=true then do let ok <- isTrue c env (eval c env);pure (bW ok) else pure (bW r)
noncomputable abbrev xv (elt tg iter tg2 iter2:Expr) (ifs ifs2:List Expr) (scope:Scope) (pos:Pos):Expr:=.ListComp elt [⟨tg,iter,ifs,0⟩,⟨tg2,iter2,ifs2,0⟩] scope pos
theorem Yu (elt tg iter tg2 iter2:Expr) (ifs ifs2:List Expr) (scope:Scope) (pos:Pos) (it acc:ag) (env:Env) :
  oC (xv elt tg iter tg2 iter2 ifs ifs2 scope pos) 0 it acc env=(eY iter.pos >>= λ_=>fG it >>= λr=>match r with
   | none=>pure (.done .next)
   | some v=>cS tg it v >>= λ_=>ip tg env v >>= λ_=>wB ifs env >>= λok =>
    (if ok=true then (eval iter2 env >>= λx=>eY iter2.pos >>= λ_=>cu iter2 env x >>= λx=>dG [x] (mF x) >>= λi2=>runOwn (.compStart (xv elt tg iter tg2 iter2 ifs ifs2 scope pos) 1 i2 acc env) env >>= λ_=>again (.compLoop (xv elt tg iter tg2 iter2 ifs ifs2 scope pos) 0 it acc env))
     else again (.compLoop (xv elt tg iter tg2 iter2 ifs ifs2 scope pos) 0 it acc env))):=by
 rfl
theorem Vb (elt tg iter tg2 iter2:Expr) (ifs ifs2:List Expr) (scope:Scope) (pos:Pos) (it acc:ag) (env:Env) :
  oC (xv elt tg iter tg2 iter2 ifs ifs2 scope pos) 1 it acc env=(eY iter2.pos >>= λ_=>fG it >>= λr=>match r with
   | none=>pure (.done .next)
   | some v=>cS tg2 it v >>= λ_=>ip tg2 env v >>= λ_=>wB ifs2 env >>= λok =>
    (if ok=true then ((eval elt env >>= λx=>call (.builtin "list.append") [acc,x] >>= λ_=>pure ()) >>= λ_=>again (.compLoop (xv elt tg iter tg2 iter2 ifs ifs2 scope pos) 1 it acc env))
     else again (.compLoop (xv elt tg iter tg2 iter2 ifs ifs2 scope pos) 1 it acc env))):=by
 rfl
section
variable {s:Shared}{A:bj}{prog:Program}{w:b9}{R:mH->Shared->Prop}{elt tg iter tg2 iter2:Expr}{ifs ifs2:List Expr}{scope:Scope}{pos:Pos}{it acc:ag}{env:Env}
theorem Va (I:Nat->Shared->Prop)
  (turn:∀n s,I n s->ay (aD prog w) A (fG it) (λr s₁=>match r with
   | none=>R (.ok .next) s₁
   | some v=>ay (aD prog w) A (cS tg2 it v) (λ_ s₂=>ay (aD prog w) A (ip tg2 env v) (λ_ s₃=>ay (aD prog w) A (wB ifs2 env) (λok s₄ =>
      if ok=true then ay (aD prog w) A (eval elt env) (λx s₅=>ay (aD prog w) A (call (.builtin "list.append") [acc,x]) (λ_ s₆=>∃m,m<n/\I m s₆) (λ_ _=>False) s₅) (λ_ _=>False) s₄
      else ∃m,m<n/\I m s₄) (λ_ _=>False) s₃) (λ_ _=>False) s₂) (λ_ _=>False) s₁) (λ_ _=>False) s)
  (n:Nat) (h:I n s):cO (aD prog w) A (.compLoop (xv elt tg iter tg2 iter2 ifs ifs2 scope pos) 1 it acc env) R s:=by
 refine oB rfl I (λn s hI=>?_) n h
 show ay _ A ((oC (xv elt tg iter tg2 iter2 ifs ifs2 scope pos) 1 it acc env).onRaise (λx=>do iL x env;mh x)) _ _ s
 refine pK ?_;rw [Vb]
 refine ae (cY (ae (ba (turn n s hI) (λr s₁ h₁=>?_) λ_ _ h'=>h'.elim)))
 cases r with
 | none=>exact wpAny_pure h₁
 | some v =>
  refine ae (ba h₁ (λ_ s₂ h₂=>?_) λ_ _ h'=>h'.elim)
  refine ae (ba h₂ (λ_ s₃ h₃=>ae (ba h₃ (λok s₄ h₄=>?_) λ_ _ h'=>h'.elim)) λ_ _ h'=>h'.elim)
  cases ok with
  | false=>exact wpAny_pure ⟨rfl,h₄⟩
  | true=>exact ae (ae (ba h₄ (λx s₅ h₅=>ae (ba h₅ (λ_ s₆ h₆=>wpAny_pure (wpAny_pure ⟨rfl,h₆⟩)) λ_ _ h'=>h'.elim)) λ_ _ h'=>h'.elim))
theorem YC {R:mH->Shared->Prop}(h0:cO (aD prog w) A (.compLoop (xv elt tg iter tg2 iter2 ifs ifs2 scope pos) 1 it acc env) R s)
  (h:ay (aD prog w) A (mF it) (λi2 s'=>cO (aD prog w) A (.compLoop (xv elt tg iter tg2 iter2 ifs ifs2 scope pos) 1 i2 acc env) R s') (λ_ _=>False) s) :
  cO (aD prog w) A (.compStart (xv elt tg iter tg2 iter2 ifs ifs2 scope pos) 1 it acc env) R s:=by
 refine codeAny_of_tree ?_
 show ay _ _ ((compStart (xv elt tg iter tg2 iter2 ifs ifs2 scope pos) 1 it acc env).onRaise (λx=>do iL x env;eY theWindowsPlace)) _ _ s
 refine wpAny_notedAt ?_;unfold compStart;show ay _ _ (ask >>= _) _ _ s
 refine ae (wpAny_askSetting (wpAny_ite ?_))
 split
 ·first | exact ae (wpAny_pure (wpAny_pure (fE rfl h0))) | exact wpAny_pure (fE rfl h0)
 ·first
   | exact ae (fq (ae (cY (ae (ba h (λi2 s' h'=>wpAny_pure (fE rfl h')) λ_ _ x=>x.elim)))))
   | (refine ae (fq ?_);show ay _ _ (eY iter2.pos >>= _) _ _ s;exact ae (cY (ae (ba h (λi2 s' h'=>wpAny_pure (fE rfl h')) λ_ _ x=>x.elim))))
theorem Ys (I:Nat->Shared->Prop) (hs2:∀x,cu iter2 env x=pure x)
  (turn:∀n s,I n s->ay (aD prog w) A (fG it) (λr s₁=>match r with
   | none=>R (.ok .next) s₁
   | some v=>ay (aD prog w) A (cS tg it v) (λ_ s₂=>ay (aD prog w) A (ip tg env v) (λ_ s₃=>ay (aD prog w) A (wB ifs env) (λok s₄ =>
      if ok=true then ay (aD prog w) A (eval iter2 env) (λx s₅=>ay (aD prog w) A (mF x) (λi2 s₆=>cO (aD prog w) A (.compStart (xv elt tg iter tg2 iter2 ifs ifs2 scope pos) 1 i2 acc env) (λr s'=>match r with | .ok _=>∃m,m<n/\I m s' | .error _=>False) s₆) (λ_ _=>False) s₅) (λ_ _=>False) s₄
      else ∃m,m<n/\I m s₄) (λ_ _=>False) s₃) (λ_ _=>False) s₂) (λ_ _=>False) s₁) (λ_ _=>False) s)
  (n:Nat) (h:I n s):cO (aD prog w) A (.compLoop (xv elt tg iter tg2 iter2 ifs ifs2 scope pos) 0 it acc env) R s:=by
 refine oB rfl I (λn s hI=>?_) n h
 show ay _ A ((oC (xv elt tg iter tg2 iter2 ifs ifs2 scope pos) 0 it acc env).onRaise (λx=>do iL x env;mh x)) _ _ s
 refine pK ?_;rw [Yu]
 refine ae (cY (ae (ba (turn n s hI) (λr s₁ h₁=>?_) λ_ _ h'=>h'.elim)))
 cases r with
 | none=>exact wpAny_pure h₁
 | some v =>
  refine ae (ba h₁ (λ_ s₂ h₂=>?_) λ_ _ h'=>h'.elim)
  refine ae (ba h₂ (λ_ s₃ h₃=>ae (ba h₃ (λok s₄ h₄=>?_) λ_ _ h'=>h'.elim)) λ_ _ h'=>h'.elim)
  cases ok with
  | false=>exact wpAny_pure ⟨rfl,h₄⟩
  | true =>
   refine ae (ba h₄ (λx s₅ h₅=>ae (cY (ae (wpAny_of_eq (hs2 x) (ae (bP (ba h₅ (λi2 s₆ h₆=>ae (wpAny_runOwn ?_)) λ_ _ h'=>h'.elim))))))) λ_ _ h'=>h'.elim)
   rw [Around.mark_none]
   refine dz h₆ λr s' q=>?_
   cases r with
   | ok f=>exact wpAny_pure ⟨rfl,q⟩
   | error e=>exact q.elim
end
noncomputable def kW (acc:Addr) (g2:TG) (ti2:TT) (te:TE) (J2:It) (NX:St->Hp->Prop) (σ3:St) (H5:Hp):Prop :=
 ∃W2:Nat->Nat->St->Hp->Prop,(∃m,W2 0 m σ3 H5)/\∀j m σ6 H6,W2 j m σ6 H6->(J2.stop j H6/\NX σ6 H6)\/(J2.go j H6/\∃NX2:St->Hp->Prop,(∀σ7 H7,NX2 σ7 H7->∃m',m'<m/\W2 (j+1) m' σ7 H7) /\
  ∀y H7,J2.yld j H6 y H7->g2 y σ6 H7 λσ8 H8=>ti2 σ8 H8 λok2 H9=>if ok2=true then te σ8 H9 λv H10=>∃ys,H10 acc=some (.lst ys)/\ys.length<sizeLine/\NX2 σ8 (upd H10 acc (.lst (ys++[v]))) else NX2 σ8 H9)
section
variable {X:Cx}{pos:Pos}
noncomputable def Wo (own:Nat) (caps:List Nat) (wi:TI) (g:TG) (ti:TT) (wi2:TI) (g2:TG) (ti2:TT) (te:TE):TE:=λσ H Q=>wi σ H λJ H1=>∀acc,H1 acc=none ->
 ∃W:Nat->Nat->St->Hp->Prop,(∃m,W 0 m (vy own caps σ) (upd H1 acc (.lst [])))/\∀i m σ' H',W i m σ' H' ->
  (J.stop i H'/\Q (.ref acc) H') \/
  (J.go i H'/\∃NX:St->Hp->Prop,(∀σ2 H2,NX σ2 H2->∃m',m'<m/\W (i+1) m' σ2 H2) /\
   ∀x H2,J.yld i H' x H2->g x σ' H2 λσ3 H3=>ti σ3 H3 λok H4=>if ok=true then wi2 σ3 H4 λJ2 H5=>kW acc g2 ti2 te J2 NX σ3 H5 else NX σ3 H4)
theorem Yd {osc:Scope}{ON N:List Str}{scope:Scope}{own:Nat}{caps:List Nat}{cl:List (Str×Addr)}{tg elt iter tg2 iter2:Expr}{ifs ifs2:List Expr}{g g2:TG}{ti ti2:TT}{wi2:TI}{te:TE}{pins:List (Addr×Obj)}{σ:St}{H:Hp}{s:Shared}{fp:List Addr}{it:Addr}
  {tn:Nat->Heap->Prop} {J:It} {Q:VK} {RR:ag->Addr->mH->Shared->Prop} {E:ag->Shared->Prop}
  (hc:X.calm=true) (S:CompSc osc ON scope own N caps) (hsc:X.env.scope=osc) (hN:X.N=ON) (hcl:∀x,cl.lookup x=if (x,bc)∈scope.names then X.env.cells.lookup x else none)
  (hg:∀cl C s H ex,PG (X.block scope cl C N s H ex) tg g) (hif:∀cl C s H ex,Jy (X.block scope cl C N s H ex) ifs ti) (hi2:∀cl C s H ex,PI (X.block scope cl C N s H ex) tg2 iter2 wi2) (hg2:∀cl C s H ex,PG (X.block scope cl C N s H ex) tg2 g2) (hif2:∀cl C s H ex,Jy (X.block scope cl C N s H ex) ifs2 ti2) (he:∀cl C s H ex,PE (X.block scope cl C N s H ex) elt te) (hs2:∀env x,cu iter2 env x=pure x)
  (I:Inv X pins σ H s) (T:Turn X.prog X.w X.K tg J fp it tn) (st:tn 0 s.heap) (hf:∀b∈fp,uZ X pins H b)
  (hw:∀acc,H acc=none->∃W:Nat->Nat->St->Hp->Prop,(∃m,W 0 m (vy own caps σ) (upd H acc (.lst [])))/\∀i m σ' H',W i m σ' H' ->
   (J.stop i H'/\Q (.ref acc) H')\/(J.go i H'/\∃NX:St->Hp->Prop,(∀σ2 H2,NX σ2 H2->∃m',m'<m/\W (i+1) m' σ2 H2) /\
    ∀x H2,J.yld i H' x H2->g x σ' H2 λσ3 H3=>ti σ3 H3 λok H4=>if ok=true then wi2 σ3 H4 λJ2 H5=>kW acc g2 ti2 te J2 NX σ3 H5 else NX σ3 H4))
  (fin:∀(D C:Addr) (H':Hp) (s':Shared),Inv X pins σ H' s'->BlockAt X pins H' C->(∃m,s'.heap.Ns C m)->Q (.ref D) H'->RR (.ref D) C (.ok .next) s') :
  ay (aD X.prog X.w) X.A (pV []) (λacc s₃=>ay (aD X.prog X.w) X.A (rK scope X.env.globals cl [] X.env.qual none .none (some X.env)) (λcenv s₄ =>
   cO (aD X.prog X.w) X.A (.compStart (xv elt tg iter tg2 iter2 ifs ifs2 scope pos) 0 (.ref it) acc { cenv with scope:=relabel scope X.env }) (RR acc cenv.locals) s₄) E s₃) E s:=by
 have hfs:∀b∈fp,b<s.heap.objs.size:=λb hb=>by
  obtain ⟨o,e,_⟩:=T.obj _ _ st b hb
  exact aw e
 refine c9 (mK S.nocell (by intro y hy;simp at hy) (λh₁ hns₁ hsb₁=>?_) S.kind)
 dsimp only at hns₁ hsb₁ ⊢
 generalize hH2:s.heap.push { cls:=.type "list",dict:=none,data:=.seq ([]:List ag).toArray }=H2 at hns₁ hsb₁ ⊢
 have hCsz:H2.objs.size=s.heap.objs.size+1:=by rw [<- hH2,cv]
 have old:∀b o,s.heap.get? b=some o->h₁.get? b=some o:=λb o e=>hsb₁.extBut b o (aA (by rw [hCsz];exact cc (aw e))) (ai _ (hH2 ▸ ai _ e))
 have eD:h₁.get? s.heap.objs.size=some { cls:=.type "list",data:=.seq #[] }:=hsb₁.extBut _ _ (aA ∅) (ai _ (hH2 ▸ az _ rfl))
 have hDn:H s.heap.objs.size=none:=I.hok.fresh (aq _)
 obtain ⟨W,⟨m0,w0⟩,turn⟩:=hw s.heap.objs.size hDn
 have hns:h₁.Ns H2.objs.size λ_=>none:=hns₁
 have I1:Inv (X.block scope cl H2.objs.size N s H fp) [] (vy own caps σ) (upd H s.heap.objs.size (.lst [])) { s with heap:=h₁,toks:=s.toks+([]:List (Str×ag)).length } :=
  wj S hsc hN hcl I hf hfs rfl hCsz old eD hns _
 have st1:tn 0 h₁:=T.keep 0 _ _ st λb _ o e=>old b o e
 have fpB:∀{H':Hp},(∀b∈fp,H' b=none)->∀b∈fp,uZ (X.block scope cl H2.objs.size N s H fp) [] H' b:=λ{H'} hn b hb=>by
  have ok:=I1.ok
  exact ⟨hn b hb,(ok.exf b hb).1,ok.exfs b hb,.inl hb,(ok.exf b hb).2,λp hp=>absurd (show p∈([]:List (Addr×Obj)) from hp) (by simp)⟩
 have back:∀{σ':St} {H':Hp} {s':Shared},Inv (X.block scope cl H2.objs.size N s H fp) [] σ' H' s'->Q (.ref s.heap.objs.size) H'->RR (.ref s.heap.objs.size) H2.objs.size (.ok .next) s':=λ{σ' H' s'} J1 q=>by
  have J2:Inv X pins σ H' s':=I.call' (ch:=fp) J1.os J1.base J1.hok J1.bare λb hb=>⟨(hf b hb).2.2.2.1,(hf b hb).2.1,(hf b hb).2.2.2.2.1,(hf b hb).2.2.2.2.2⟩
  obtain ⟨m,hm,_⟩:=J1.loc
  refine fin _ _ H' s' J2 ⟨J1.free,cW (aQ I.lt ∅),aF I.sz ∅,λx c e z=>?_,λp hp z=>?_⟩ ⟨m,hm⟩ q
  ·obtain ⟨v,y⟩:=I.cell x c e
   have h1:H2.objs.size<s.heap.objs.size:=z ▸ y.lt
   exact absurd h1 ∅
  ·have h1:H2.objs.size<s.heap.objs.size:=z ▸ aw (I.pin p hp).1
   exact absurd h1 ∅
 have loop:∀s₃:Shared,s₃={ s with heap:=h₁,toks:=s.toks+([]:List (Str×ag)).length } ->
   cO (aD X.prog X.w) X.A (.compLoop (xv elt tg iter tg2 iter2 ifs ifs2 scope pos) 0 (.ref it) (.ref s.heap.objs.size) (rH scope cl H2.objs.size X.env)) (RR (.ref s.heap.objs.size) H2.objs.size) s₃:=by
  rintro s₃ rfl
  refine Ys (λn s'=>∃i σ' H',Inv (X.block scope cl H2.objs.size N s H fp) [] σ' H' s'/\tn i s'.heap/\(∀b∈fp,H' b=none)/\W i n σ' H') (hs2 _) ?_ m0
   ⟨0,_,_,I1,st1,λb hb=>by rw [j6 (aA (hfs b hb))];exact (hf b hb).1,w0⟩
  rintro n s3 ⟨i,σ3,H3,I3,st3,fr3,w3⟩
  rcases turn i n σ3 H3 w3 with ⟨stop,qn⟩ | ⟨go,NX,hNX,step⟩
  ·refine thn (T.done (X.block scope cl H2.objs.size N s H fp) rfl rfl rfl hc i [] s3 σ3 H3 _ I3 (fpB fr3) st3 stop) λr s4 ⟨hr,I4⟩=>?_
   subst hr
   exact back I4 qn
  ·refine thn (T.item (X.block scope cl H2.objs.size N s H fp) rfl rfl rfl hc i [] s3 σ3 H3 _ I3 (fpB fr3) st3 go) λr s4 ⟨u,hr,h4⟩=>?_
   subst hr
   refine thn h4 λ_ s5 ⟨x,H5,I5,r5,y5,st5,fr5⟩=>?_
   have I5':=I5.pinned (fpB fr5) (T.obj _ _ st5)
   refine thn (hg cl H2.objs.size s H fp _ s5 σ3 H5 x u _ I5' r5 (step x H5 y5)) λ_ s6 ⟨σ6,H6,I6,q6⟩=>?_
   refine thn (hif cl H2.objs.size s H fp _ s6 σ6 H6 _ I6 q6) λok s7 ⟨H7,I7,q7⟩=>?_
   have again:∀{s8:Shared} {σ8:St} {H8:Hp},Inv (X.block scope cl H2.objs.size N s H fp) ([]++zr fp s5.heap) σ8 H8 s8->NX σ8 H8->∃m,m<n/\∃i σ' H',Inv (X.block scope cl H2.objs.size N s H fp) [] σ' H' s8/\tn i s8.heap/\(∀b∈fp,H' b=none)/\W i m σ' H':=λ{s8 σ8 H8} I8 n8=>by
    obtain ⟨m',hm,w8⟩:=hNX σ8 H8 n8
    refine ⟨m',hm,i+1,σ8,H8,I8.unpinned,T.keep _ _ _ st5 λb hb o e=>(I8.pin (b,o) (aH _ (aH _ (qV hb e)))).1,λb hb=>?_,w8⟩
    obtain ⟨o,e,d⟩:=T.obj _ _ st5 b hb
    exact (I8.pin (b,o) (aH _ (aH _ (qV hb e)))).2.1
   cases ok with
   | false =>
    rw [if_neg au] at q7 ⊢
    exact again I7 q7
   | true =>
    rw [if_pos rfl] at q7 ⊢
    refine thn (hi2 cl H2.objs.size s H fp _ s7 σ6 H7 _ I7 q7) λv s8 h8=>thn h8 λitv s9 h9=>?_
    obtain ⟨it2,fp2,tn2,J2,H9,e,I9,T2,st9,f9,W2,⟨m2,w2⟩,turn2⟩:=h9
    subst e
    have stat2:∀{H':Hp},(∀b∈fp2,H' b=none)->∀b∈fp2,uZ (X.block scope cl H2.objs.size N s H fp) ([]++zr fp s5.heap) H' b:=λhn b hb=>⟨hn b hb,(f9 b hb).2⟩
    have inner:cO (aD X.prog X.w) X.A (.compLoop (xv elt tg iter tg2 iter2 ifs ifs2 scope pos) 1 (.ref it2) (.ref s.heap.objs.size) (rH scope cl H2.objs.size X.env)) (λr s'=>match r with | .ok _=>∃m,m<n/\∃i σ' H',Inv (X.block scope cl H2.objs.size N s H fp) [] σ' H' s'/\tn i s'.heap/\(∀b∈fp,H' b=none)/\W i m σ' H' | .error _=>False) s9:=by
     refine Va (λn2 s'=>∃j σ' H',Inv (X.block scope cl H2.objs.size N s H fp) ([]++zr fp s5.heap) σ' H' s'/\tn2 j s'.heap/\(∀b∈fp2,H' b=none)/\W2 j n2 σ' H') ?_ m2 ⟨0,_,_,I9,st9,λb hb=>(f9 b hb).1,w2⟩
     rintro n2 s10 ⟨j,σ10,H10,I10,st10,fr10,w10⟩
     rcases turn2 j n2 σ10 H10 w10 with ⟨stop2,nx2⟩ | ⟨go2,NX2,hNX2,step2⟩
     ·refine thn (T2.done (X.block scope cl H2.objs.size N s H fp) rfl rfl rfl hc j _ s10 σ10 H10 _ I10 (stat2 fr10) st10 stop2) λr s11 ⟨hr,I11⟩=>?_
      subst hr
      exact again I11 nx2
     ·refine thn (T2.item (X.block scope cl H2.objs.size N s H fp) rfl rfl rfl hc j _ s10 σ10 H10 _ I10 (stat2 fr10) st10 go2) λr s11 ⟨u2,hr,h11⟩=>?_
      subst hr
      refine thn h11 λ_ s12 ⟨x2,H12,I12,r12,y12,st12,fr12⟩=>?_
      have I12':=I12.pinned (stat2 fr12) (T2.obj _ _ st12)
      refine thn (hg2 cl H2.objs.size s H fp _ s12 σ10 H12 x2 u2 _ I12' r12 (step2 x2 H12 y12)) λ_ s13 ⟨σ13,H13,I13,q13⟩=>?_
      refine thn (hif2 cl H2.objs.size s H fp _ s13 σ13 H13 _ I13 q13) λok2 s14 ⟨H14,I14,q14⟩=>?_
      have again2:∀{s15:Shared} {σ15:St} {H15:Hp},Inv (X.block scope cl H2.objs.size N s H fp) (([]++zr fp s5.heap)++zr fp2 s12.heap) σ15 H15 s15->NX2 σ15 H15->∃m,m<n2/\∃j σ' H',Inv (X.block scope cl H2.objs.size N s H fp) ([]++zr fp s5.heap) σ' H' s15/\tn2 j s15.heap/\(∀b∈fp2,H' b=none)/\W2 j m σ' H':=λ{s15 σ15 H15} I15 n15=>by
       obtain ⟨m',hm,w15⟩:=hNX2 σ15 H15 n15
       refine ⟨m',hm,j+1,σ15,H15,I15.unpinned,T2.keep _ _ _ st12 λb hb o e=>(I15.pin (b,o) (aH _ (aH _ (qV hb e)))).1,λb hb=>?_,w15⟩
       obtain ⟨o,e,d⟩:=T2.obj _ _ st12 b hb
       exact (I15.pin (b,o) (aH _ (aH _ (qV hb e)))).2.1
      cases ok2 with
      | false =>
       rw [if_neg au] at q14 ⊢
       exact again2 I14 q14
      | true =>
       rw [if_pos rfl] at q14 ⊢
       refine thn (he cl H2.objs.size s H fp _ s14 σ13 H14 _ I14 q14) λv15 s15 ⟨y15,H15,I15,r15,ys,e15,z15,q15⟩=>?_
       refine thn (jZ _ s15 σ13 H15 (.ref s.heap.objs.size) [y15] _ [v15] (λ_ H16=>NX2 σ13 H16) I15 rfl (.cons r15 .nil) ⟨_,ys,y15,rfl,rfl,e15,z15,q15⟩) λ_ s16 ⟨_,H16,I16,_,q16⟩=>?_
       exact again2 I16 q16
    exact YC inner (T2.self _ 0 _ _ _ st9 inner)
 exact lZ (loop _ rfl) (T.self _ 0 _ _ _ st1 (loop _ rfl))
theorem YO {osc:Scope}{ON N:List Str}{scope:Scope}{own:Nat}{caps:List Nat}{tg elt iter tg2 iter2:Expr}{ifs ifs2:List Expr}{wi wi2:TI}{g g2:TG}{ti ti2:TT}{te:TE}(S:CompSc osc ON scope own N caps)
  (hc:X.calm=true) (hsc:X.env.scope=osc) (hN:X.N=ON) (hi:PI X tg iter wi)
  (hg:∀cl C s H ex,PG (X.block scope cl C N s H ex) tg g) (hif:∀cl C s H ex,Jy (X.block scope cl C N s H ex) ifs ti) (hi2:∀cl C s H ex,PI (X.block scope cl C N s H ex) tg2 iter2 wi2) (hg2:∀cl C s H ex,PG (X.block scope cl C N s H ex) tg2 g2) (hif2:∀cl C s H ex,Jy (X.block scope cl C N s H ex) ifs2 ti2) (he:∀cl C s H ex,PE (X.block scope cl C N s H ex) elt te)
  (hs:∀x,cu iter X.env x=pure x:=by intro _;rfl) (hs2:∀env x,cu iter2 env x=pure x:=by intro _ _;rfl):PE X (.ListComp elt [⟨tg,iter,ifs,0⟩,⟨tg2,iter2,ifs2,0⟩] scope pos) (Wo own caps wi g ti wi2 g2 ti2 te):=by
 intro pins s σ H Q I h
 obtain ⟨cl,hclos,hcl⟩:=vL (XW S hsc I)
 rw [sy]
 refine fi (use:=none) rfl hs hclos S.kind S.loc (thn (hi pins s σ H _ I h) λv s1 h1=>thn h1 λitv s2 h2=>?_)
 obtain ⟨it,fp,tn,J,H2,e,I2,T,st2,f2,hw⟩:=h2
 subst e
 refine Yd (RR:=λacc C=>sU (aD X.prog X.w) X.A X.xe none (EP X pins σ Q) acc C) hc S hsc hN hcl hg hif hi2 hg2 hif2 he hs2 I2 T st2 f2 hw λD C H' s' J1 B ⟨m,hm⟩ q=>?_
 exact ⟨m,hm,λh' hs'=>⟨.ref D,H',B.gone J1 hs',rfl,q⟩⟩
end
end L2
end
section
namespace L2
open PySem.W
structure CalM (P:Program) (w:b9) (K:ah) (mg:Str->Option ag) (base:Heap) (k:Nat) (C:Addr) (m:Str) (ps:List Str) (sp:Sp):Prop where
 ex:∃f fd,FnOk P w K mg base CX0 k f fd ps sp/\yE K fd ps []/\Meth K C m f
structure CalMX (P:Program) (w:b9) (K:ah) (mg:Str->Option ag) (base:Heap) (k:Nat) (C:Addr) (m:Str) (ps:List Str) (sp:Sp):Prop where
 ex:∃f fd,FnOk P w K mg base (CX1 P w) k f fd ps sp/\yE K fd ps []/\Meth K C m f
section
variable {X:Cx}{k:Nat}{f C:Addr}{fd:FuncData}{ps:List Str}{sp:Sp}{x m:Str}{p pos apos:Pos}{e o:Expr}{es:List Expr}{ta:TE}{t:TA}{J:ag->St->Hp->Prop}
theorem GB {pins:List (Addr×Obj)}{σ:St}{H:Hp}{s:Shared}{Q:VK}{us:List ag}{vs:List V}(F:FnOk X.prog X.w X.K X.mg X.base (CX1 X.prog X.w) k f fd ps sp) (hr:Room k X.A) (hb:yE X.K fd ps []) (ac:Acc X J)
  (I:Inv X pins σ H s) (r:jC vs us) (h:sp vs H Q λcls _ H'=>J cls σ H'):ay (aD X.prog X.w) X.A (call (.ref f) us) (EP X pins σ Q) X.xe s:=by
 have hl:us.length=ps.length:=by rw [<- r.length];exact F.len _ _ _ _ h
 have hb':=hb s us I.kIn (by rw [aM];exact hl)
 rw [aM] at hb'
 refine lT (dz (F.run X.A X.stack s H ⟨us,[]⟩ us vs Q _ hr I.env0 hb' r h) λr s' hq=>?_)
 cases r with
 | error e =>
  obtain ⟨a,cls,H',rfl,os,b,u,ok,fy,j⟩:=hq
  exact ac pins σ H' s' a cls ⟨s,H,I,os,b,u,ok,fy⟩ j
 | ok fl =>
  cases fl with
  | ret u=>exact I.after hq
  | next=>exact bC hq
  | brk=>exact bC hq
  | cont=>exact bC hq
theorem pe_m {pl:Sem Bool}(he:PE X o ta) (c:Cls X.K C) (cm:CalM X.prog X.w X.K X.mg X.base k C m ps sp) (hr:Room k X.A) (ha:PA X (e::es) t)
  (hst:aO (e::es) X.env=(false,eval e X.env)::aO es X.env:=by rfl) (hpl:(cH pos (aO es X.env)).any (·.1)=false:=by rfl)
  (ht:eval (.Call (.Attribute o m apos) (e::es) [] pos) X.env=(do let ov <- eval o X.env;eY apos.atName;let (f,first) <- dG [ov] (lL ov m pl);oj pos f first (cH pos (aO (e::es) X.env)) (iO pos (eP [] X.env))):=by rfl) :
  PE X (.Call (.Attribute o m apos) (e::es) [] pos) (Wj C m sp [] E0 ta t):=by
 obtain ⟨f,fd,F,hb,hm⟩:=cm.ex
 exact Ut he c hm F hr hb .nil Wa ha hst hpl ht
noncomputable def WR (C:Addr) (m:Str) (sp:Sp) (J:ag->St->Hp->Prop) (ta:TE) (t:TA):TE:=λσ H Q=>ta σ H λx H1=>∃a dx fs,x = .ref a/\H1 a=some (.ins C dx fs)/\fs.lookup m=none/\t σ H1 λvs H2=>sp (x::vs) H2 Q λcls _ H'=>J cls σ H'
theorem y4 {pl:Sem Bool}(he:PE X o ta) (c:Cls X.K C) (cm:CalMX X.prog X.w X.K X.mg X.base k C m ps sp) (hr:Room k X.A) (ac:Acc X J) (ha:PA X (e::es) t)
  (hst:aO (e::es) X.env=(false,eval e X.env)::aO es X.env:=by rfl) (hpl:(cH pos (aO es X.env)).any (·.1)=false:=by rfl)
  (ht:eval (.Call (.Attribute o m apos) (e::es) [] pos) X.env=(do let ov <- eval o X.env;eY apos.atName;let (f,first) <- dG [ov] (lL ov m pl);oj pos f first (cH pos (aO (e::es) X.env)) (iO pos (eP [] X.env))):=by rfl) :
  PE X (.Call (.Attribute o m apos) (e::es) [] pos) (WR C m sp J ta t):=by
 obtain ⟨f,fd,F,hb,hm⟩:=cm.ex
 intro pins s σ H Q I h
 refine i4 (pl:=pl) (thn (he pins s σ H _ I h) λu s1 ⟨x,H1,I1,rx,a,dx,fs,ex,ea,l,q⟩=>?_) ht
 subst ex
 obtain rfl:u=aS a:=rx
 refine vO I1 ea c hm l ?_
 refine dZ (first:=[.ref a]) (h₀:=X.base) I.ok.mod.kin hm.kp (thn (ha pos pins s1 σ H1 _ I1 q) λus s2 ⟨vs,H2,I2,r,q2⟩=>⟨I2.kIn,?_⟩) hst hpl
 exact GB (us:=.ref a::us) (vs:=.ref a::vs) F hr hb ac I2 (.cons rfl r) q2
structure MakX (P:Program) (w:b9) (K:ah) (mg:Str->Option ag) (base:Heap) (k:Nat) (C:Addr) (x:Str) (ps:List Str) (sp:Sp):Prop where
 ex:∃f fd,FnOk P w K mg base (CX1 P w) k f fd ps sp/\yE K fd ps []/\Mk K C f/\mg x=some (.ref C)
noncomputable def Ww (C:Addr) (sp:Sp) (J:ag->St->Hp->Prop) (t:TA):TE:=λσ H Q=>t σ H λvs H1=>∀x dx,H1 x=none->H1 dx=none->dx≠x ->
 sp (.ref x::vs) (upd (upd H1 dx (.own x)) x (.ins C dx [])) (λv H2=>v = .non/\Q (.ref x) H2) λcls _ H'=>J cls σ H'
theorem Uf (c:MakX X.prog X.w X.K X.mg X.base k C x ps sp) (hr:Room (k+1) X.A) (ac:Acc X J) (hg:Gl X x) (ha:PA X (e::es) t) (hdb:(x == ("__debug__" : Str))=false:=by decide) (he:aO (e::es) X.env=(false,eval e X.env)::aO es X.env:=by rfl) (hpl:(cH pos (aO es X.env)).any (·.1)=false:=by rfl) :
  PE X (.Call (.Name x p) (e::es) [] pos) (Ww C sp J t):=by
 obtain ⟨f,fd,F,hb,M,hm⟩:=c.ex
 intro pins s0 σ H0 Q I0 h0
 refine de (uc I0 hg hm ?_ hdb)
 refine dZ (h₀:=X.base) I0.ok.mod.kin M.kp (thn (ha pos pins s0 σ H0 _ I0 h0) λus s ⟨vs,H,I,r,h⟩=>⟨I.kIn,?_⟩) he hpl
 have hq:=h (s.heap.objs.size+1) s.heap.objs.size (I.hok.fresh (fB _)) (I.hok.fresh (aq _)) (aA (i7 _))
 have I2:=Inv.made (C:=C) I
 have r2:jC (V.ref (s.heap.objs.size+1)::vs) (aS (s.heap.objs.size+1)::us):=.cons rfl r
 have hl:(aS (s.heap.objs.size+1)::us).length=ps.length:=by rw [<- r2.length];exact F.len _ _ _ _ hq
 have hb':=hb { s with heap:=_ } (aS (s.heap.objs.size+1)::us) I2.kIn (by rw [aM];exact hl)
 rw [aM] at hb'
 refine lT (YT (f:=f) I.kIn M.makes M.init (beq_iff_eq.mp M.fn) (dz (F.run _ X.stack _ _ ⟨aS (s.heap.objs.size+1)::us,[]⟩ (aS (s.heap.objs.size+1)::us) _ _ _ (hr.make C us []) (I2.env0.make C us []) hb' r2 hq) λr s' hq'=>?_))
 cases r with
 | error e =>
  obtain ⟨a,cls,H',rfl,os,b,u,ok,fy,j⟩:=hq'
  exact ac pins σ H' s' a cls ⟨_,_,I2,os,b,u,ok,fy⟩ j
 | ok fl =>
  cases fl with
  | ret u =>
   obtain ⟨v,H',I3,rv,ev,q3⟩:=I2.after hq'
   subst ev
   exact ⟨rv,⟨V.ref (s.heap.objs.size+1),H',I3,rfl,q3⟩⟩
  | next=>exact bC hq'
  | brk=>exact bC hq'
  | cont=>exact bC hq'
theorem xk {f:Str}(K:ah) (he:PE X e ta) (hb:dB e f X.env (eval e X.env)=eval e X.env:=by rfl) (hK:X.K=K:=by rfl):PE X (.Attribute e f pos) (GS K ta f):=by subst hK;exact WB he hb
theorem uz {f:Str}{value:Expr}{pos':Pos}{tv:TE}(K:ah) (ha:PE X o ta) (hv:PE X value tv) (hs:iK value (some (.Attribute o f pos')) pos.line X.env=pure false:=by rfl) (hK:X.K=K:=by rfl):PS X (.Assign [.Attribute o f pos'] value pos) (Gv K ta tv f):=by subst hK;exact WN ha hv hs
end
theorem Gm {K:ah}{a acc:Addr}{xs:List V}{g2:TG}{ti2:TT}{te:TE}{NX:St->Hp->Prop}{σ:St}{H:Hp}(Pv:Nat->St->Hp->Prop) (h0:Pv 0 σ H) (hl:∀i σ H,i<=xs.length->Pv i σ H->SqT K H a xs)
  (hs:∀i x σ H,xs[i]? = some x->Pv i σ H->g2 x σ H λσ3 H3=>ti2 σ3 H3 λok H4=>if ok=true then te σ3 H4 λv H5=>∃ys,H5 acc=some (.lst ys)/\ys.length<sizeLine/\Pv (i+1) σ3 (upd H5 acc (.lst (ys++[v]))) else Pv (i+1) σ3 H4)
  (hd:∀σ H,Pv xs.length σ H->NX σ H):kW acc g2 ti2 te (Itt K a) NX σ H:=by
 refine ⟨λi m σ H=>m=xs.length-i/\i<=xs.length/\Pv i σ H,⟨xs.length,by simp,aC _,h0⟩,λi m σ H z=>?_⟩
 obtain ⟨rfl,hi,p⟩:=z
 have q:=hl i σ H hi p
 by_cases hlt:i<xs.length
 ·refine .inr ⟨⟨xs,xs[i],q,by simp [hlt]⟩,Pv (i+1),λσ' H' p'=>⟨xs.length-(i+1),∅,rfl,hlt,p'⟩,λx H' y=>?_⟩
  obtain ⟨e,y⟩:=y
  subst e
  exact hs i x σ _ (y xs q) p
 ·obtain rfl:i=xs.length:=∅
  exact .inl ⟨⟨xs,q,aq _⟩,hd σ H p⟩
theorem ZW {K:ah}{a acc:Addr}{xs:List V}{g g2:TG}{ti ti2:TT}{wi2:TI}{te:TE}{R:Hp->Prop}{σ:St}{H:Hp}(Pv:Nat->St->Hp->Prop) (h0:Pv 0 σ H) (hl:∀i σ H,i<=xs.length->Pv i σ H->SqT K H a xs)
  (hs:∀i x σ H,xs[i]? = some x->Pv i σ H->g x σ H λσ3 H3=>ti σ3 H3 λok H4=>if ok=true then wi2 σ3 H4 λJ2 H5=>kW acc g2 ti2 te J2 (Pv (i+1)) σ3 H5 else Pv (i+1) σ3 H4)
  (hd:∀σ H,Pv xs.length σ H->R H) :
  ∃W:Nat->Nat->St->Hp->Prop,(∃m,W 0 m σ H)/\∀i m σ' H',W i m σ' H' ->
   ((Itt K a).stop i H'/\R H')\/((Itt K a).go i H'/\∃NX:St->Hp->Prop,(∀σ2 H2,NX σ2 H2->∃m',m'<m/\W (i+1) m' σ2 H2) /\
    ∀x H2,(Itt K a).yld i H' x H2->g x σ' H2 λσ3 H3=>ti σ3 H3 λok H4=>if ok=true then wi2 σ3 H4 λJ2 H5=>kW acc g2 ti2 te J2 NX σ3 H5 else NX σ3 H4):=by
 refine ⟨λi m σ H=>m=xs.length-i/\i<=xs.length/\Pv i σ H,⟨xs.length,by simp,aC _,h0⟩,λi m σ H z=>?_⟩
 obtain ⟨rfl,hi,p⟩:=z
 have q:=hl i σ H hi p
 by_cases hlt:i<xs.length
 ·refine .inr ⟨⟨xs,xs[i],q,by simp [hlt]⟩,Pv (i+1),λσ' H' p'=>⟨xs.length-(i+1),∅,rfl,hlt,p'⟩,λx H' y=>?_⟩
  obtain ⟨e,y⟩:=y
  subst e
  exact hs i x σ _ (y xs q) p
 ·obtain rfl:i=xs.length:=∅
  exact .inl ⟨⟨xs,q,aq _⟩,hd σ H p⟩
theorem JC {X:Cx}:Acc X λ_ _ _=>False:=λ_ _ _ _ _ _ _ z=>z.elim
end L2
end
section
namespace L2
open PySem.W
inductive gN (K:ah) (n:Str) (s:Stmt):Prop
 | mk {f:Addr} {oc kV dc pm cd ct:ag} {od an:Option Addr} {sl:Array (Option ag)} (a:nsIn K mainGlobals n=some (some (.ref f))) (l:K.lookup f=some ⟨oc,od,.func (fnOf n n (qg s) (jT s) (j8 s) .none kV dc pm an cd ct),sl⟩) (c:codeIn K cd n=true) (k:keepIn K (.ref f)=true)
inductive gM (K:ah) (C:Addr) (m q:Str) (s:Stmt):Prop
 | mk {f:Addr} {oc kV dc pm cd ct:ag} {od an:Option Addr} {sl:Array (Option ag)} (a:findIn K (.ref C) m=some (some (.ref f))) (i:isFn K (.ref f)=true) (l:K.lookup f=some ⟨oc,od,.func (fnOf m q (qg s) (jT s) (j8 s) .none kV dc pm an cd ct),sl⟩) (c:codeIn K cd q=true) (k:keepIn K (.ref f)=true)
structure gE (K:ah) (n:Str) (C:Addr):Prop where
 e:nsIn K mainGlobals n=some (some (.ref C))
 x:excIn K C [.type "ValueError",.type "Exception",.type "BaseException",.type "object"] "ValueError.__new__" = true
 m:exmOne K (.ref C) (.ref C)=some true
noncomputable abbrev gB (x q:Str) (st:Stmt) (ps:List Str):Prop:=∀(kV doc pm:ag) (an:Option Addr) (cdv ct:ag) (us:List ag),us.length=ps.length->cw (fnOf x q (qg st) (jT st) (j8 st) .none kV doc pm an cdv ct) ⟨us,[]⟩=pure (ps.zip us)
inductive Zt (P:Program) (w:b9) (K:ah) (mg:Str->Option ag) (base:Heap):Prop
 | mk {h:Heap} (X:K.In h) (G:h.Ns mainGlobals mg)
section
variable {P:Program}{w:b9}{K:ah}{mg:Str->Option ag}{base:Heap}{k:Nat}{x q:Str}{ps:List Str}{sp:Sp}{st:Stmt}{C:Addr}
theorem gN.cal (a:gN K x st) (z:Zt P w K mg base) (hb:gB x x st ps)
  (ok:∀{f:Addr} {fd:FuncData},Fun K x x st f fd->FnOk P w K mg base CX0 k f fd ps sp):Cal P w K mg base k x ps sp:=by
 obtain ⟨a,l,c,k'⟩:=a
 obtain ⟨X,G⟩:=z
 exact Cal.mk' X G a l c k' hb ok
theorem gN.calX (a:gN K x st) (z:Zt P w K mg base) (hb:gB x x st ps)
  (ok:∀{f:Addr} {fd:FuncData},Fun K x x st f fd->FnOk P w K mg base (CX1 P w) k f fd ps sp):CalX P w K mg base k x ps sp:=by
 obtain ⟨a,l,c,k'⟩:=a
 obtain ⟨X,G⟩:=z
 exact CalX.mk' X G a l c k' hb ok
theorem gM.cal (a:gM K C x q st) (z:Zt P w K mg base) (hb:gB x q st ps)
  (ok:∀{f:Addr} {fd:FuncData},Fun K x q st f fd->FnOk P w K mg base CX0 k f fd ps sp):CalM P w K mg base k C x ps sp:=by
 obtain ⟨a,i,l,c,k'⟩:=a
 have F:=vU (st:=st) l c k'
 exact ⟨_,_,ok F,F.binds hb,⟨a,i,k'⟩⟩
theorem gM.calX (a:gM K C x q st) (z:Zt P w K mg base) (hb:gB x q st ps)
  (ok:∀{f:Addr} {fd:FuncData},Fun K x q st f fd->FnOk P w K mg base (CX1 P w) k f fd ps sp):CalMX P w K mg base k C x ps sp:=by
 obtain ⟨a,i,l,c,k'⟩:=a
 have F:=vU (st:=st) l c k'
 exact ⟨_,_,ok F,F.binds hb,⟨a,i,k'⟩⟩
theorem gM.mak {y:Str}(a:gM K C "__init__" q st) (z:Zt P w K mg base) (m:makesIn K C=true) (kc:keepIn K (.ref C)=true) (n:nsIn K mainGlobals y=some (some (.ref C))) (hb:gB "__init__" q st ps)
  (ok:∀{f:Addr} {fd:FuncData},Fun K "__init__" q st f fd->FnOk P w K mg base (CX1 P w) k f fd ps sp):MakX P w K mg base k C y ps sp:=by
 obtain ⟨a,i,l,c,k'⟩:=a
 obtain ⟨X,G⟩:=z
 have F:=vU (st:=st) l c k'
 exact ⟨_,_,ok F,F.binds hb,⟨m,a,i,kc⟩,mg_of X G n⟩
end
theorem bnd1 {fd:FuncData}{ps:List Str}{us:List ag}(hl:us.length=1) (h:∀a,cw fd ⟨[a],[]⟩=pure (ps.zip [a])):cw fd ⟨us,[]⟩=pure (ps.zip us):=match us,hl with | [a],_=>h a
theorem bnd2 {fd:FuncData}{ps:List Str}{us:List ag}(hl:us.length=2) (h:∀a b,cw fd ⟨[a,b],[]⟩=pure (ps.zip [a,b])):cw fd ⟨us,[]⟩=pure (ps.zip us):=match us,hl with | [a,b],_=>h a b
theorem bnd3 {fd:FuncData}{ps:List Str}{us:List ag}(hl:us.length=3) (h:∀a b c,cw fd ⟨[a,b,c],[]⟩=pure (ps.zip [a,b,c])):cw fd ⟨us,[]⟩=pure (ps.zip us):=match us,hl with | [a,b,c],_=>h a b c
theorem bnd4 {fd:FuncData}{ps:List Str}{us:List ag}(hl:us.length=4) (h:∀a b c d,cw fd ⟨[a,b,c,d],[]⟩=pure (ps.zip [a,b,c,d])):cw fd ⟨us,[]⟩=pure (ps.zip us):=match us,hl with | [a,b,c,d],_=>h a b c d
theorem bnd5 {fd:FuncData}{ps:List Str}{us:List ag}(hl:us.length=5) (h:∀a b c d e,cw fd ⟨[a,b,c,d,e],[]⟩=pure (ps.zip [a,b,c,d,e])):cw fd ⟨us,[]⟩=pure (ps.zip us):=match us,hl with | [a,b,c,d,e],_=>h a b c d e
theorem bnd6 {fd:FuncData}{ps:List Str}{us:List ag}(hl:us.length=6) (h:∀a b c d e f,cw fd ⟨[a,b,c,d,e,f],[]⟩=pure (ps.zip [a,b,c,d,e,f])):cw fd ⟨us,[]⟩=pure (ps.zip us):=match us,hl with | [a,b,c,d,e,f],_=>h a b c d e f
end L2
end
section
namespace L2
open PySem.W
theorem YK {X:Cx}{a:Expr}{ta:TE}(K:ah) (ha:PE X a ta) (he:∀whole,isTrue a X.env whole=(do let v <- whole;eY a.pos;dG [v] (sZ v)):=by intro _;rfl) (hK:X.K=K:=by rfl) :
  PT X a (λσ H Q=>ta σ H λx H'=>∃k,G8 K x H' k/\Q k H'):=by subst hK;exact YQ ha he
end L2
end
section
namespace L2
end L2
namespace L2
section
variable (P:Program) (w:b9)
end
section
variable {P:Program}{w:b9}{H H':Hp}{h h':Heap}{a:Addr}{o:HO}
end
section
variable {P:Program}{w:b9}{H:Hp}{h h':Heap}{x e:Addr}{o':HO}
end
section
variable {fs fs' ex ex':List Addr}{H H1 H2:Hp}{h h1 h2 h':Heap}{a x e:Addr}{o:HO}
end
end L2
namespace L2
section
variable {X:Cx}{pins:List (Addr×Obj)}{σ:List (Option V)}{H H':Hp}{s:Shared}{h':Heap}
end
end L2
namespace L2
section
variable {X:Cx}
variable {a b:Expr}{ta tb:TE}{pos:Pos}
variable {tA tB':TT}{zA:List Expr}
end
end L2
namespace L2
section
variable {X:Cx}{pins:List (Addr×Obj)}{σ:St}{H:Hp}{s:Shared}{a:Addr}{xs ys:List V}
end
section
variable {X:Cx}{pins:List (Addr×Obj)}{σ:St}{H:Hp}{s:Shared}{E:ag->Shared->Prop}
end
section
variable {X:Cx}{st:Stmt}{zA:List Stmt}{t u:TS}{e:Expr}{te:TE}{pos:Pos}
end
section
variable {X:Cx}{pos:Pos}
end
section
variable {X:Cx}{pos:Pos}
end
end L2
namespace L2
section
variable {X:Cx}{tg:Expr}
end
end L2
namespace L2
section
variable {X:Cx}{a b c:Expr}{ta tb tc:TE}{pos:Pos}
end
section
variable {X:Cx}{a b c:Expr}{ta tb tc:TE}{pos:Pos}
end
end L2
namespace L2
section
variable {prog:Program}{w:b9}{A:bj}{E:ag->Shared->Prop}{s:Shared}{K:ah}{x dx C f:Addr}{mA:Str->Option ag}{name:Str}{v:ag}
end
section
variable {P:Program}{w:b9}{H H':Hp}{h h':Heap}{a C dx:Addr}{fs fs':List (Str×V)}
end
section
variable {X:Cx}{pins:List (Addr×Obj)}{σ:St}{H:Hp}{s:Shared}{a C dx:Addr}{fs:List (Str×V)}{f:Str}{v:V}{A:bj}{E:ag->Shared->Prop}
end
section
variable {X:Cx}{o e value:Expr}{f:Str}{pos pos' tpos:Pos}{ta tv:TE}
end
section
variable {X:Cx}{pins:List (Addr×Obj)}{σ:St}{H:Hp}{s:Shared}{A:bj}{E:ag->Shared->Prop}{Q:ag->Shared->Prop}{c:ag}{b:Bool}
end
end L2
namespace L2
section
variable {X:Cx}{e:Expr}{es:List Expr}{te:TE}{t:TA}{pos:Pos}
end
section
variable {X:Cx}{pins:List (Addr×Obj)}{σ:St}{H:Hp}{s s':Shared}
end
section
variable {X:Cx}{CX:CXT}{k:Nat}{f C:Addr}{fd:FuncData}{ps:List Str}{sp:Sp}{dvs:List V}{ds:List ag}{E:XK}{x m:Str}{p pos apos:Pos}{e o:Expr}{es:List Expr}{ta:TE}{t:TA}
end
section
variable {X:Cx}{CX:CXT}{k:Nat}{f C:Addr}{fd:FuncData}{ps ks:List Str}{sp:Sp}{E:XK}{x m:Str}{p pos apos kpos:Pos}{e o:Expr}{es:List Expr}{kws:List lU}{te ta:TE}{t tk:TA}{nm:Option Str}
variable {g:List ag->List ag->List ag}{gV:List V->List V->List V}
end
end L2
namespace L2
section
variable {X:Cx}{x:Str}{p pos:Pos}{e:Expr}{es:List Expr}{t:TA}{id T:String}{r:List V->Hp->VK->Prop}
end
end L2
namespace L2
section
variable {κ:Type} [DecidableEq κ]
noncomputable def jV (kvs:List (κ×V)) (k:κ):Option V:=(kvs.find? λkv=>decide (kv.1=k)).map (·.2)
noncomputable def qB (kvs:List (κ×V)) (k:κ) (v:V):List (κ×V) :=
 if (kvs.any λkv=>decide (kv.1=k))=true then kvs.map (λkv=>if kv.1=k then (kv.1,v) else kv) else kvs++[(k,v)]
theorem yO {k:κ}:jV ([]:List (κ×V)) k=none:=rfl
theorem qY {p:κ×V}{r:List (κ×V)}{k:κ}(e:p.1=k):jV (p::r) k=some p.2:=by simp [jV,eF,e]
theorem qX {p:κ×V}{r:List (κ×V)}{k:κ}(e:¬p.1=k):jV (p::r) k=jV r k:=by simp [jV,eF,e]
theorem yd (k:κ):∀kvs:List (κ×V),(kvs.any λkv=>decide (kv.1=k))=(jV kvs k).isSome
 | []=>rfl
 | p::r=>by
  rw [fg]
  by_cases e:p.1=k
  ·simp only [qY e,decide_eq_true e,Bool.true_or,Option.isSome_some]
  ·rw [qX e,decide_eq_false e,Bool.false_or];exact yd k r
theorem Ql (k j:κ) (y:V):∀kvs:List (κ×V),jV (kvs.map λkv=>if kv.1=k then (kv.1,y) else kv) j=(jV kvs j).map λx=>if j=k then y else x
 | []=>rfl
 | p::r=>by
  have ih:=Ql k j y r
  rw [aN]
  by_cases h:p.1=k
  ·rw [if_pos h]
   by_cases e:p.1=j
   ·rw [qY (p:=(p.1,y)) e,qY e,iB,if_pos (e.symm.trans h)]
   ·rw [qX (p:=(p.1,y)) e,qX e,ih]
  ·rw [if_neg h]
   by_cases e:p.1=j
   ·rw [qY (p:=p) e,qY e,iB,if_neg (λz=>h (e.trans z))]
   ·rw [qX (p:=p) e,qX e,ih]
theorem gU (k j:κ) (y:V):∀kvs:List (κ×V),jV kvs k=none->jV (kvs++[(k,y)]) j=if j=k then some y else jV kvs j
 | [],_=>by
  by_cases e:k=j
  ·rw [if_pos e.symm];exact qY (p:=(k,y)) e
  ·rw [if_neg (λz=>e z.symm)];exact qX (p:=(k,y)) e
 | p::r,hn=>by
  rw [List.cons_append]
  have hk:¬p.1=k:=λz=>by rw [qY z] at hn;cases hn
  rw [qX hk] at hn
  have ih:=gU k j y r hn
  by_cases e:p.1=j
  ·rw [qY e,qY e,if_neg (λz=>hk (e.trans z))]
  ·rw [qX e,qX e,ih]
theorem Vm (kvs:List (κ×V)) (k j:κ) (y:V):jV (qB kvs k y) j=if j=k then some y else jV kvs j:=by
 unfold qB
 by_cases a:(kvs.any λkv=>decide (kv.1=k))=true
 ·rw [if_pos a,Ql]
  rw [yd] at a
  by_cases e:j=k
  ·obtain ⟨x,hx⟩:=Option.isSome_iff_exists.mp a
   rw [if_pos e,e,hx,iB,if_pos rfl]
  ·rw [if_neg e]
   cases jV kvs j with
   | none=>rfl
   | some x=>rw [iB,if_neg e]
 ·rw [if_neg a]
  refine gU k j y kvs ?_
  rw [yd] at a
  cases q:jV kvs k with
  | none=>rfl
  | some x=>rw [q] at a;exact (a rfl).elim
theorem zJ (kvs:List (κ×V)) (k:κ) (v:V):(qB kvs k v).length<=kvs.length+1:=by
 unfold qB
 split
 ·rw [af];omega
 ·rw [ak,bb,ml];omega
theorem zY {kvs:List (κ×V)}{k:κ}(v:V) (h:jV kvs k=none):qB kvs k v=kvs++[(k,v)]:=by
 unfold qB
 rw [yd,h]
 exact if_neg ⋯
theorem yG.isSome_eq {o:Option V}{u:Option ag}(r:yG o u):o.isSome=u.isSome:=by
 cases o with
 | none=>cases u with
  | none=>rfl
  | some _=>exact (show False from r).elim
 | some _=>cases u with
  | none=>exact (show False from r).elim
  | some _=>rfl
theorem yG.getD {o:Option V}{u:Option ag}{d:V}{d':ag}(r:yG o u) (rd:jE d d'):jE (o.getD d) (u.getD d'):=by
 cases o with
 | none=>cases u with
  | none=>exact rd
  | some _=>exact (show False from r).elim
 | some _=>cases u with
  | none=>exact (show False from r).elim
  | some _=>exact r
theorem KV.val {kvs:List (κ×V)}{vs:List (κ×ag)}(r:KV kvs vs) (k:κ):yG (jV kvs k) (n9 vs k):=by
 unfold KV at r
 induction r with
 | nil=>exact cT
 | @cons p q ps qs h t ih =>
  obtain ⟨h1,h2⟩:=h
  by_cases e:p.1=k
  ·have e':q.1=k:=h1.symm.trans e
   have b:n9 (q::qs) k=some q.2:=by simp [n9,eF,e']
   rw [qY e,b];exact h2
  ·have e':¬q.1=k:=λz=>e (h1.trans z)
   have b:n9 (q::qs) k=n9 qs k:=by simp [n9,eF,e']
   rw [qX e,b];exact ih
theorem KV.any {kvs:List (κ×V)}{vs:List (κ×ag)}(r:KV kvs vs) (k:κ):(kvs.any λkv=>decide (kv.1=k))=vs.any λkv=>decide (kv.1=k):=by
 unfold KV at r
 induction r with
 | nil=>rfl
 | cons h t ih=>rw [fg,fg,ih,h.1]
theorem KV.repl {kvs:List (κ×V)}{vs:List (κ×ag)}(r:KV kvs vs) (k:κ) {y:V}{u:ag}(ry:jE y u) :
  KV (kvs.map λkv=>if kv.1=k then (kv.1,y) else kv) (vs.map λkv=>if kv.1=k then (kv.1,u) else kv):=by
 unfold KV at r ⊢
 induction r with
 | nil=>exact .nil
 | @cons p q ps qs h t ih =>
  rw [aN,aN]
  refine .cons ?_ ih
  obtain ⟨h1,h2⟩:=h
  by_cases e:p.1=k
  ·rw [if_pos e,if_pos (h1.symm.trans e)];exact ⟨h1,ry⟩
  ·rw [if_neg e,if_neg (λz=>e (h1.trans z))];exact ⟨h1,h2⟩
theorem KV.put {kvs:List (κ×V)}{vs:List (κ×ag)}(r:KV kvs vs) (k:κ) {y:V}{u:ag}(ry:jE y u):KV (qB kvs k y) (sI vs k u):=by
 unfold qB sI
 rw [r.any k]
 by_cases e:(vs.any λkv=>decide (kv.1=k))=true
 ·rw [if_pos e,if_pos e];exact r.repl k ry
 ·rw [if_neg e,if_neg e];exact bL r ⟨rfl,ry⟩
theorem KV.length {kvs:List (κ×V)}{vs:List (κ×ag)}(r:KV kvs vs):kvs.length=vs.length:=aK r
end
theorem wP {P:Program}{w:b9}{k:Key}{u:ag}(r:jE (kV k) u):(jv P w).is k u=true:=by
 cases k with
 | inl i=>obtain ⟨t,e⟩:=(show ∃t,u=lF i t from r);subst e;exact QI P w i t
 | inr x=>obtain ⟨t,e⟩:=(show ∃t,u=mZ x t from r);subst e;exact X0 P w x t
theorem Jl {P:Program}{w:b9}:∀{ks:List Key}{us:List ag},jC (ks.map kV) us->ItemsAre (jv P w) ks us
 | [],_,r=>by rw [fb] at r;cases r;exact .nil
 | k::ks,_,r=>by
  rw [aN] at r
  cases r with
  | cons h t=>exact .cons (wP h) (Jl t)
noncomputable abbrev KT (H:Hp):List (List Key×V)->List (List Key×Addr×ag)->Prop:=cG λp q=>p.1=q.1/\H q.2.1=some (.tup (p.1.map kV))/\jE p.2 q.2.2
theorem KT.val {H:Hp}{kvs:List (List Key×V)}{xs:List (List Key×Addr×ag)}(r:KT H kvs xs) (k:List Key):yG (jV kvs k) ((oM xs k).map (·.2)):=by
 induction r with
 | nil=>exact cT
 | @cons p q ps qs h t ih =>
  obtain ⟨h1,_,h2⟩:=h
  by_cases e:p.1=k
  ·have e':q.1=k:=h1.symm.trans e
   have b:oM (q::qs) k=some q.2:=by simp [oM,eF,e']
   rw [qY e,b];exact h2
  ·have e':¬q.1=k:=λz=>e (h1.trans z)
   have b:oM (q::qs) k=oM qs k:=by simp [oM,eF,e']
   rw [qX e,b];exact ih
theorem KT.repl {H:Hp}{kvs:List (List Key×V)}{xs:List (List Key×Addr×ag)}(r:KT H kvs xs) (k:List Key) {y:V}{u:ag}(ry:jE y u) :
  KT H (kvs.map λkv=>if kv.1=k then (kv.1,y) else kv) (xs.map (putAt k u)):=by
 induction r with
 | nil=>exact .nil
 | @cons p q ps qs h t ih =>
  rw [aN,aN]
  refine .cons ?_ ih
  obtain ⟨h1,h2,h3⟩:=h
  unfold putAt
  by_cases e:p.1=k
  ·rw [if_pos e,if_pos (h1.symm.trans e)];exact ⟨h1,h2,ry⟩
  ·rw [if_neg e,if_neg (λz=>e (h1.trans z))];exact ⟨h1,h2,h3⟩
theorem KT.put {H:Hp}{kvs:List (List Key×V)}{xs:List (List Key×Addr×ag)}(r:KT H kvs xs) (k:List Key) {b:Addr}{y:V}{u:ag}(hb:H b=some (.tup (k.map kV))) (ry:jE y u) :
  KT H (qB kvs k y) (sJ xs k b u):=by
 have e:(kvs.any λkv=>decide (kv.1=k))=(oM xs k).isSome:=by
  rw [yd,(r.val k).isSome_eq,oN]
 unfold qB sJ
 rw [e]
 by_cases q:(oM xs k).isSome=true
 ·rw [if_pos q,if_pos q];exact r.repl k ry
 ·rw [if_neg q,if_neg q];exact bL r ⟨rfl,hb,ry⟩
theorem KT.keeps {H H':Hp}{kvs:List (List Key×V)}{xs:List (List Key×Addr×ag)}(r:KT H kvs xs) (ht:∀b ys,H b=some (.tup ys)->H' b=some (.tup ys)):KT H' kvs xs :=
 Paired.mapP r λ_ _ z=>⟨z.1,ht _ _ z.2.1,z.2.2⟩
section
variable {P:Program}{w:b9}{H:Hp}{h:Heap}{a:Addr}
theorem Wg {u:HO}(ok:HOk P w H h) (e:Rd H a u):qi P w H h a u:=e.ok ok
theorem wf {kvs:List (Key×V)}(ok:HOk P w H h) (e:Rd H a (.dK kvs)):kvs.length<=sizeLine/\(a == d9)=false/\∃vs,KV kvs vs/\h.DictOf (jv P w) a vs :=
 show qi P w H h a (.dK kvs) from Wg ok e
theorem U4 {kvs:List (Key×V)}(ok:HOk P w H h) (e:H a=some (.dK kvs)):kvs.length<=sizeLine/\(a == d9)=false/\∃vs,KV kvs vs/\h.DictOf (jv P w) a vs:=wf ok (.inl e)
theorem uI {ks:List Key}(ok:HOk P w H h) (e:H a=some (.tup (ks.map kV))):(d5 (jv P w)).is h ks a:=by
 obtain ⟨_,its,r,o,h1,h2,n,h3⟩:=(show qi P w H h a (.tup (ks.map kV)) from ok a _ e)
 exact ⟨o,its.toArray,n,h1,h2,h3,by simpa using Jl r⟩
theorem gP {kvs:List (List Key×V)}(ok:HOk P w H h) (e:Rd H a (.dT kvs)):kvs.length<=sizeLine/\(a == d9)=false /\
  ∃xs,KT H kvs xs/\h.DictOfH (d5 (jv P w)) a xs:=by
 obtain ⟨z,y,xs,r,o,es,ep,h1,h2,h3,h4,h5⟩:=(show qi P w H h a (.dT kvs) from Wg ok e)
 refine ⟨z,y,xs,r,o,es,ep,h1,h2,h3,h4,λx hx=>?_,h5⟩
 have all:∀{l:List (List Key×V)} {m:List (List Key×Addr×ag)},KT H l m->∀x∈m,(d5 (jv P w)).is h x.1 x.2.1:=by
  intro l m q
  induction q with
  | nil=>intro x hx;exact nomatch hx
  | @cons p q ps qs hq t ih =>
   intro x hx
   rcases List.mem_cons.mp hx with e | hx
   ·subst e
    exact uI ok (by rw [<- hq.1];exact hq.2.1)
   ·exact ih x hx
 exact all r x hx
theorem Eb {kvs:List (List Key×V)}(ok:HOk P w H h) (e:H a=some (.dT kvs)):kvs.length<=sizeLine/\(a == d9)=false /\
  ∃xs,KT H kvs xs/\h.DictOfH (d5 (jv P w)) a xs:=gP ok (.inl e)
end
noncomputable def qU (H:Hp) (a:Addr) (y:V) (r:Option V):Prop :=
 (∃kvs k,Rd H a (.dK kvs)/\y=kV k/\r=jV kvs k)\/∃kvs k b,Rd H a (.dT kvs)/\y = .ref b/\H b=some (.tup (k.map kV))/\r=jV kvs k
noncomputable def vF (H:Hp) (a:Addr) (y v:V) (H':Hp):Prop :=
 (∃kvs k,H a=some (.dK kvs)/\y=kV k/\kvs.length<sizeLine/\H'=upd H a (.dK (qB kvs k v))) \/
 ∃kvs k b,H a=some (.dT kvs)/\y = .ref b/\H b=some (.tup (k.map kV))/\kvs.length<sizeLine/\H'=upd H a (.dT (qB kvs k v))
theorem qU.k {H:Hp}{a:Addr}{kvs:List (Key×V)}{k:Key}(e:H a=some (.dK kvs)):qU H a (kV k) (jV kvs k):=.inl ⟨kvs,k,.inl e,rfl,rfl⟩
theorem qU.t {H:Hp}{a b:Addr}{kvs:List (List Key×V)}{k:List Key}(e:H a=some (.dT kvs)) (eb:H b=some (.tup (k.map kV))):qU H a (.ref b) (jV kvs k):=.inr ⟨kvs,k,b,.inl e,rfl,eb,rfl⟩
theorem vF.k {H:Hp}{a:Addr}{kvs:List (Key×V)}{k:Key}{v:V}(e:H a=some (.dK kvs)) (hl:kvs.length<sizeLine):vF H a (kV k) v (upd H a (.dK (qB kvs k v))):=.inl ⟨kvs,k,e,rfl,hl,rfl⟩
theorem vF.t {H:Hp}{a b:Addr}{kvs:List (List Key×V)}{k:List Key}{v:V}(e:H a=some (.dT kvs)) (eb:H b=some (.tup (k.map kV))) (hl:kvs.length<sizeLine) :
  vF H a (.ref b) v (upd H a (.dT (qB kvs k v))):=.inr ⟨kvs,k,b,e,rfl,eb,hl,rfl⟩
section
variable {X:Cx}{pins:List (Addr×Obj)}{σ:St}{H:Hp}{s:Shared}{a:Addr}{y v:V}{u r:ag}{o:Option V}{A:bj}{E:ag->Shared->Prop}
theorem Inv.big (I:Inv X pins σ H s):d9<s.heap.objs.size:=by
 have h:mainGlobals<s.heap.objs.size:=(I.mod.glob.keeps I.bk).lt
 exact Nat.lt_trans ⋯ h
theorem Y6 {Q:ag->Shared->Prop}(hu:A.units+1<cLine) (I:Inv X pins σ H s) (g:qU H a y (some v)) (ry:jE y u) (h:∀w' s',Inv X pins σ H s'->jE v w'->Q w' s') :
  ay (aD X.prog X.w) A (lV (.ref a) u) Q E s:=by
 rcases g with ⟨kvs,k,e,ey,l⟩ | ⟨kvs,k,b,e,ey,eb,l⟩
 ·subst ey
  obtain ⟨z,hd,vs,rel,dd⟩:=wf I.hok e
  obtain ⟨w',hw,rw'⟩:=yG.some_of (v:=v) (o:=n9 vs k) (by rw [l];exact rel.val k)
  exact wpAny_getItem_of (wP ry) dd.mapOf hw (h w' _ (I.tok _) rw')
 ·subst ey
  cases (show u=aS b from ry)
  obtain ⟨z,hd,xs,rel,dd⟩:=gP I.hok e
  obtain ⟨w',hw,rw'⟩:=yG.some_of (v:=v) (o:=(oM xs k).map (·.2)) (by rw [l];exact rel.val k)
  obtain ⟨p,hp,hp2⟩:=Option.map_eq_some_iff.mp hw
  refine wpAny_getItem_heap (ef hu) (uI I.hok eb) dd hp ?_
  rw [hp2]
  exact h w' _ (I.tok _) rw'
theorem d_in {Q:ag->Shared->Prop}(hu:A.units+1<cLine) (I:Inv X pins σ H s) (g:qU H a y o) (ry:jE y u) (h:∀s',Inv X pins σ H s'->Q (.bool o.isSome) s') :
  ay (aD X.prog X.w) A (cf .In u (.ref a)) Q E s:=by
 rcases g with ⟨kvs,k,e,ey,l⟩ | ⟨kvs,k,b,e,ey,eb,l⟩
 ·subst ey
  obtain ⟨z,hd,vs,rel,dd⟩:=wf I.hok e
  refine wpAny_in_of (wP ry) hd dd.mapOf ?_
  rw [<- (rel.val k).isSome_eq,<- l]
  exact h _ (I.tok _)
 ·subst ey
  cases (show u=aS b from ry)
  obtain ⟨z,hd,xs,rel,dd⟩:=gP I.hok e
  refine wpAny_in_heap (ef hu) (uI I.hok eb) hd dd ?_
  have q:=(rel.val k).isSome_eq
  rw [oN] at q
  rw [<- q,<- l]
  exact h _ (I.tok _)
theorem Jm {h':Heap}{t':Nat}{ob:HO}(I:Inv X pins σ H s) (mu:Mut (H a)) (hs:dY a s.heap h') (he:∃q,h'.get? a=some q) (new:qi X.prog X.w (upd H a ob) h' a ob) :
  Inv X pins σ (upd H a ob) { s with heap:=h',toks:=t' } :=
 I.write (x:=a) (e:=a) mu (.inl rfl) (λb q hb z=>(hs.2 b hb).trans z) he new
theorem Z1 {P:Program}{w:b9}{H':Hp}{h':Heap}{kvs:List (Key×V)}{vs:List (Key×ag)}(z:kvs.length<=sizeLine) (hd:(a == d9)=false) (rel:KV kvs vs) (dd:h'.DictOf (jv P w) a vs) :
  qi P w H' h' a (.dK kvs):=⟨z,hd,vs,rel,dd⟩
theorem YB {H':Hp}{Q:Unit->Shared->Prop}(hu:A.units+1<cLine) (I:Inv X pins σ H s) (g:vF H a y v H') (ry:jE y u) (rv:jE v r) (h:∀s',Inv X pins σ H' s'->Q () s') :
  ay (aD X.prog X.w) A (setItem (.ref a) u r) Q E s:=by
 rcases g with ⟨kvs,k,e,ey,l,eH⟩ | ⟨kvs,k,b,e,ey,eb,l,eH⟩
 ·subst ey eH
  obtain ⟨z,hd,vs,rel,dd⟩:=U4 I.hok e
  have hz:vs.length<=sizeLine:=by rw [<- rel.length];exact z
  have hl:(qB kvs k v).length<=sizeLine:=by have:=zJ kvs k v;omega
  refine wpAny_setItem_pairs (hsz:=hz) (wP ry) dd λh' dd' hs=>h _ ?_
  have he:∃q,h'.get? a=some q:=let ⟨q,_,_,hq,_⟩:=dd';⟨q,hq⟩
  exact Jm I (by rw [e];exact cT) hs he (Z1 hl hd (rel.put k rv) dd')
 ·subst ey eH
  cases (show u=aS b from ry)
  obtain ⟨z,hd,xs,rel,dd⟩:=Eb I.hok e
  have hz:xs.length<=sizeLine:=by rw [<- aK rel];exact z
  have hl:(qB kvs k v).length<=sizeLine:=by have:=zJ kvs k v;omega
  refine wpAny_setItem_heap (hsz:=hz) (ef hu) (uI I.hok eb) dd λh' dd' hs=>h _ ?_
  obtain ⟨q,es,ep,hq,h2,h3,h4,_,h5⟩:=dd'
  refine Jm I (by rw [e];exact cT) hs ⟨q,hq⟩ ⟨hl,hd,_,(rel.put k eb rv).keeps λc ys ec=>?_,q,es,ep,hq,h2,h3,h4,h5⟩
  rw [j6 (ji ec e (λz=>nomatch z))]
  exact ec
end
section
variable {X:Cx}{pins:List (Addr×Obj)}{σ:St}{H:Hp}{s:Shared}{a:Addr}{kvs:List (Key×V)}{k:Key}{u:ag}{A:bj}{E:ag->Shared->Prop}
end
noncomputable def GY (i:Expr):Prop:=∀ov iv,mI i false ov iv=operate [ov,iv] (lV ov iv)
theorem UO {prog:Program}{w:b9}{A:bj}{E:ag->Shared->Prop}{s:Shared}{env:Env}{value slice:Expr}{pos:Pos}{T id:String}{Q:ag->Shared->Prop}
  (hl:rG (.type T) "__getitem__" = pure (some (.builtin id))) (hs:GY slice)
  (h:ay (aD prog w) A (eval value env) (λo s₁=>ay (aD prog w) A (eval slice env) (λi s₂=>s₂.TypeIs o T/\ay (aD prog w) A (lV o i) Q E s₂) E s₁) E s) :
  ay (aD prog w) A (eval (.Subscript value slice pos) env) Q E s:=by
 refine lW (ba h (λo s₁ h₁=>ba h₁ (λi s₂ h₂=>?_) λ_ _ x=>x) λ_ _ x=>x)
 obtain ⟨hT,h₂⟩:=h₂
 unfold ia
 refine ae ?_
 rw [getitemInPython_of_ne hT.not_modules]
 refine ae (wpAny_specialOf hT hl ?_)
 have fin:ay (aD prog w) A (mI slice false o i) (λr s₃=>ay (aD prog w) A (letTemporaryGo value o r >>= λ_=>pure r) Q E s₃) E s₂:=by
  rw [hs o i]
  exact wpAny_operating (ba h₂ (λr s₃ h₃=>ae (wpAny_letTemporaryGo (wpAny_pure h₃))) λ_ _ x=>x)
 first
  | exact wpAny_pure (ae fin)
  | exact ae (wpAny_pure (ae fin))
  | exact ae fin
theorem QE {X:Cx}{pins:List (Addr×Obj)}{σ:St}{H:Hp}{s:Shared}{a:Addr}{y:V}{o:Option V}(I:Inv X pins σ H s) (g:qU H a y o):s.TypeIs (.ref a) "dict":=by
 rcases g with ⟨kvs,k,e,_,_⟩ | ⟨kvs,k,b,e,_,_,_⟩
 ·obtain ⟨_,_,vs,_,dd⟩:=wf I.hok e
  exact dd.typeIs
 ·obtain ⟨_,_,xs,_,dd⟩:=gP I.hok e
  exact dd.typeIs
noncomputable def Wb (td ty:TE):TE:=λσ H Q=>td σ H λx H1=>ty σ H1 λy H2=>∃a v,x = .ref a/\qU H2 a y (some v)/\Q v H2
noncomputable def tDIn (ty td:TE):TE:=λσ H Q=>ty σ H λy H1=>td σ H1 λx H2=>∃a o,x = .ref a/\qU H2 a y o/\Q (.bl o.isSome) H2
noncomputable def Gz (td ty tv:TE):TS:=λD σ H=>tv σ H λv H1=>td σ H1 λx H2=>ty σ H2 λy H3=>∃a H4,x = .ref a/\vF H3 a y v H4/\D.nx σ H4
section
variable {X:Cx}{o i e value:Expr}{pos pos' tpos:Pos}{td ty tv:TE}
theorem jJ (hu:X.A.units+1<cLine) (ho:PE X o td) (hi:PE X i ty) (hs:GY i):PE X (.Subscript o i pos) (Wb td ty):=by
 intro pins s σ H Q I h
 refine UO PySem.F.slot_dict_getitem.lookup hs (thn (ho pins s σ H _ I h) λu s1 ⟨x,H1,I1,rx,q1⟩=>thn (hi pins s1 σ H1 _ I1 q1) λiv s2 ⟨y,H2,I2,ry,a,v,ex,g,q2⟩=>?_)
 subst ex
 obtain rfl:u=aS a:=rx
 exact ⟨QE I2 g,Y6 hu I2 g ry λw' s3 I3 rw'=>⟨v,H2,I3,rw',q2⟩⟩
theorem VX (hu:X.A.units+1<cLine) (hi:PE X i ty) (ho:PE X o td):PC X .In i o (tDIn ty td):=by
 intro pins s σ H Q I h
 refine thn (hi pins s σ H _ I h) λiv s1 ⟨y,H1,I1,ry,q1⟩=>thn (ho pins s1 σ H1 _ I1 q1) λu s2 ⟨x,H2,I2,rx,a,ov,ex,g,q2⟩=>?_
 subst ex
 obtain rfl:u=aS a:=rx
 exact d_in hu I2 g ry λs3 I3=>⟨.bl ov.isSome,H2,I3,rfl,q2⟩
theorem zf (hu:X.A.units+1<cLine) (ho:PE X o td) (hi:PE X i ty) (hv:PE X value tv) (hs:iK value (some (.Subscript o i pos')) pos.line X.env=pure false) :
  PS X (.Assign [.Subscript o i pos'] value pos) (Gz td ty tv):=by
 intro pins s σ H D I h
 refine wpAny_Assign_Subscript (thn (hv pins s σ H _ I h) λr s1 ⟨v,H1,I1,rv,q1⟩=>thn (ho pins s1 σ H1 _ I1 q1) λu s2 ⟨x,H2,I2,rx,q2⟩=>thn (hi pins s2 σ H2 _ I2 q2) λiv s3 ⟨y,H3,I3,ry,a,H4,ex,g,q3⟩=>?_) hs
 subst ex
 obtain rfl:u=aS a:=rx
 exact YB hu I3 g ry rv λs4 I4=>⟨σ,H4,I4,q3⟩
end
theorem Qb {P:Program}{w:b9}{H:Hp}(h:Heap) (hb:d9<h.objs.size):qi P w H (h.push { cls:=.type "dict",data:=.dict #[] }) h.objs.size (.dK []) :=
 ⟨aC _,beq_eq_false_iff_ne.mpr (cj (aA hb)),[],.nil,mm h⟩
theorem YW {P:Program}{w:b9}{H:Hp}(h:Heap) (hb:d9<h.objs.size):qi P w H (h.push { cls:=.type "dict",data:=.dict #[] }) h.objs.size (.dT []) :=
 ⟨aC _,beq_eq_false_iff_ne.mpr (cj (aA hb)),[],.nil,_,#[],0,az _ rfl,⟨rfl,rfl,rfl⟩,rfl,rfl,eS⟩
noncomputable def WA:TE:=λ_ H Q=>∀p,H p=none->Q (.ref p) (upd H p (.dK []))
noncomputable def Wq:TE:=λ_ H Q=>∀p,H p=none->Q (.ref p) (upd H p (.dT []))
section
variable {X:Cx}{pos:Pos}
theorem y7:PE X (.Dict [] [] pos) WA:=λpins s σ H Q I h =>
 pw ⟨.ref s.heap.objs.size,_,I.laid (a:=s.heap.objs.size) (o:=.dK []) (t':=s.toks) (λ_ _ q=>ai _ q) (aq _) (Qb s.heap I.big),rfl,h _ (I.hok.fresh (aq _))⟩
theorem VF:PE X (.Dict [] [] pos) Wq:=λpins s σ H Q I h =>
 pw ⟨.ref s.heap.objs.size,_,I.laid (a:=s.heap.objs.size) (o:=.dT []) (t':=s.toks) (λ_ _ q=>ai _ q) (aq _) (YW s.heap I.big),rfl,h _ (I.hok.fresh (aq _))⟩
end
noncomputable def Xu:List (TE×TE)->St->Hp->(List (V×V)->Hp->Prop)->Prop
 | [],_,H,Q=>Q [] H
 | (tk,tv)::r,σ,H,Q=>tk σ H λx H1=>tv σ H1 λy H2=>Xu r σ H2 λps H3=>Q ((x,y)::ps) H3
noncomputable abbrev VV:List (V×V)->List (ag×ag)->Prop:=cG λp q=>jE p.1 q.1/\jE p.2 q.2
noncomputable def PPs (X:Cx) (pos:Pos) (keys:List (Option Expr)) (values:List Expr) (trs:List (TE×TE)):Prop :=
 ∀(pins:List (Addr×Obj)) (s:Shared) (σ:St) (H:Hp) (Q:List (V×V)->Hp->Prop),Inv X pins σ H s->Xu trs σ H Q ->
  ay (aD X.prog X.w) X.A (evalPairs (pairTrees keys values X.env pos)) (λvs s'=>∃ps H',Inv X pins σ H' s'/\VV ps vs/\Q ps H') X.xe s
theorem U8 {X:Cx}{pos:Pos}:PPs X pos [] [] []:=λpins s σ H Q I h=>pairTrees_nil_walk ⟨[],H,I,.nil,h⟩
theorem k9 {X:Cx}{pos:Pos}{k v:Expr}{ks:List (Option Expr)}{vs:List Expr}{tk tv:TE}{trs:List (TE×TE)}(hk:PE X k tk) (hv:PE X v tv) (hr:PPs X pos ks vs trs) :
  PPs X pos (some k::ks) (v::vs) ((tk,tv)::trs):=λpins s σ H Q I h =>
 pairTrees_cons_walk (thn (hk pins s σ H _ I h) λu s1 ⟨x,H1,I1,rx,q1⟩=>thn (hv pins s1 σ H1 _ I1 q1) λw2 s2 ⟨y,H2,I2,ry,q2⟩ =>
  thn (hr pins s2 σ H2 _ I2 q2) λws s3 ⟨ps,H3,I3,rel,q3⟩=>⟨(x,y)::ps,H3,I3,.cons ⟨rx,ry⟩ rel,q3⟩)
noncomputable def xg (kvs more:List (Key×V)):List (Key×V):=more.foldl (λacc kv=>qB acc kv.1 kv.2) kvs
theorem KV.merge:∀{more:List (Key×V)}{rs:List (Key×ag)}{kvs:List (Key×V)}{vs:List (Key×ag)},KV more rs->KV kvs vs->KV (xg kvs more) (merged vs rs):=by
 intro more rs kvs vs r
 unfold KV at r
 induction r generalizing kvs vs with
 | nil=>intro q;exact q
 | @cons p q ps qs h t ih =>
  intro r0
  have e:KV (qB kvs p.1 p.2) (sI vs q.1 q.2):=by
   have:=r0.put p.1 h.2
   rw [<- h.1];exact this
  exact ih e
theorem zW:∀(more kvs:List (Key×V)),(xg kvs more).length<=kvs.length+more.length
 | [],kvs=>by show kvs.length<=kvs.length+0;omega
 | p::r,kvs=>by
  have h1:=zW r (qB kvs p.1 p.2)
  have h2:=zJ kvs p.1 p.2
  show (xg (qB kvs p.1 p.2) r).length<=_
  rw [bb];omega
theorem kJ {P:Program}{w:b9}:∀{kvs:List (Key×V)}{ws:List (ag×ag)},VV (kvs.map λkv=>(kV kv.1,kv.2)) ws->∃rs,Carries (jv P w) ws rs/\KV kvs rs
 | [],_,r=>by rw [fb] at r;cases r;exact ⟨[],cT,.nil⟩
 | p::kvs,_,r=>by
  rw [aN] at r
  cases r with
  | @cons a b as bs h t =>
   obtain ⟨rs,c,q⟩:=kJ (P:=P) (w:=w) t
   obtain ⟨b1,b2⟩:=b
   exact ⟨(p.1,b2)::rs,⟨wP h.1,rfl,c⟩,.cons ⟨rfl,h.2⟩ q⟩
noncomputable def GW (trs:List (TE×TE)):TE:=λσ H Q=>∀p,H p=none->Xu trs σ (upd H p (.dK [])) λps H2=>H2 p=some (.dK [])/\∃kvs:List (Key×V),ps=kvs.map (λkv=>(kV kv.1,kv.2))/\kvs.length<=15/\Q (.ref p) (upd H2 p (.dK (xg [] kvs)))
theorem U6 {X:Cx}{pos:Pos}{keys:List (Option Expr)}{values:List Expr}{trs:List (TE×TE)}(h:PPs X pos keys values trs) (hall:keys.all (·.isSome)=true) (hl:keys.length=values.length) (h0:keys≠[])
  (h15:keys.length<=15):PE X (.Dict keys values pos) (GW trs):=by
 intro pins s σ H Q I q
 have hn:=I.hok.fresh (aq s.heap.objs.size)
 have I1:=I.laid (a:=s.heap.objs.size) (o:=.dK []) (h':=s.heap.push { cls:=.type "dict",data:=.dict #[] }) (t':=s.toks) (λ_ _ q=>ai _ q) (aq _) (Qb s.heap I.big)
 refine wpAny_Dict_walk (knd:=jv X.prog X.w) hall hl h0 h15 (thn (h pins _ σ _ _ I1 (q _ hn)) λws s2 ⟨ps,H2,I2,rel,e,kvs,ep,lk,q2⟩=>?_)
 subst ep
 obtain ⟨rs,c,rk⟩:=kJ (P:=X.prog) (w:=X.w) rel
 obtain ⟨z,hd,vs0,r0,dd⟩:=U4 I2.hok e
 cases r0
 refine ⟨rs,c,dd,λh' dd' hs=>⟨.ref s.heap.objs.size,_,?_,rfl,q2⟩⟩
 have hz:(xg [] kvs).length<=sizeLine:=by
  have h1:=zW kvs []
  rw [ml] at h1
  rw [bA];omega
 have he:∃q,h'.get? s.heap.objs.size=some q:=let ⟨q,_,_,hq,_⟩:=dd';⟨q,hq⟩
 exact Jm I2 (by rw [e];exact cT) hs he (Z1 hz hd (rk.merge .nil) dd')
structure M2 (X:Cx) (o:Expr) (m:Str) (apos:Pos) (e f:Expr) (cpos:Pos):Prop where
 base:dB o m X.env (eval o X.env)=eval o X.env
 few:((cH cpos (aO [e,f] X.env)).all (λx=>!x.1) && (iO cpos (eP [] X.env)).all (λx=>x.1.isSome)
  && decide (([e,f]:List Expr).length+([]:List lU).length+(if ([]:List lU).isEmpty then 0 else 1)<30))=true
 line:(apos.endLine == cpos.line)=true
 trees:cH cpos (aO [e,f] X.env)=[(false,eval e X.env),(false,eval f X.env)]
noncomputable def IsD (H:Hp) (a:Addr):Prop:=(∃kvs,Rd H a (.dK kvs))\/∃kvs,Rd H a (.dT kvs)
theorem WI {X:Cx}{pins:List (Addr×Obj)}{σ:St}{H:Hp}{s:Shared}{a:Addr}(I:Inv X pins σ H s) (d:IsD H a) :
  s.TypeIs (.ref a) "dict" /\ (∀b,aS a = .ref b->∃ob,s.heap.get? b=some ob/\ob.dict=none)/\(a == d9)=false:=by
 rcases d with ⟨kvs,e⟩ | ⟨kvs,e⟩
 ·obtain ⟨_,hd,vs,_,dd⟩:=wf I.hok e
  refine ⟨dd.typeIs,λb q=>?_,hd⟩
  cases q
  obtain ⟨ob,_,_,h1,h2,_⟩:=dd
  exact ⟨ob,h1,h2.2.1⟩
 ·obtain ⟨_,hd,xs,_,dd⟩:=gP I.hok e
  refine ⟨dd.typeIs,λb q=>?_,hd⟩
  cases q
  obtain ⟨ob,_,_,h1,h2,_⟩:=dd
  exact ⟨ob,h1,h2.2.1⟩
section
variable {X:Cx}{pins:List (Addr×Obj)}{σ:St}{H:Hp}{s:Shared}{a:Addr}{y d:V}{u r:ag}{o:Option V}{A:bj}{E:ag->Shared->Prop}
theorem WJ {Q:ag->Shared->Prop}(hu:A.units+1<cLine) (I:Inv X pins σ H s) (g:qU H a y o) (ry:jE y u) (rd:jE d r) (h:∀w' s',Inv X pins σ H s'->jE (o.getD d) w'->Q w' s') :
  ay (aD X.prog X.w) A (call (.builtin "dict.get") [.ref a,u,r]) Q E s:=by
 rcases g with ⟨kvs,k,e,ey,l⟩ | ⟨kvs,k,b,e,ey,eb,l⟩
 ·subst ey
  obtain ⟨z,hd,vs,rel,dd⟩:=wf I.hok e
  refine call_meetsIn i5 dd.typeIs m8 (lP _ _ _) (meets_dict_get_default (jv X.prog X.w) a (wP ry) hd r) ⟨_,dd.mapOf,h _ _ (I.tok _) ?_⟩
  rw [l]
  exact (rel.val k).getD rd
 ·subst ey
  cases (show u=aS b from ry)
  obtain ⟨z,hd,xs,rel,dd⟩:=gP I.hok e
  refine call_meetsIn i5 dd.typeIs m8 (lP _ _ _) (meetsH_dict_get_default (d5 (jv X.prog X.w)) a b hd r) ⟨ef hu,k,xs,uI I.hok eb,dd,h _ _ (I.tok _) ?_⟩
  rw [l]
  exact (rel.val k).getD rd
end
noncomputable def WF (td ty tx:TE):TE:=λσ H Q=>td σ H λx H1=>∃a,x = .ref a/\IsD H1 a/\ty σ H1 λy H2=>tx σ H2 λz H3=>∃o,qU H3 a y o/\Q (o.getD z) H3
section
variable {X:Cx}{o e f:Expr}{apos cpos:Pos}{td ty tx:TE}
theorem k8 (hu:X.A.units+1<cLine) (ho:PE X o td) (he:PE X e ty) (hf:PE X f tx) (m:M2 X o "get" apos e f cpos):PE X (.Call (.Attribute o "get" apos) [e,f] [] cpos) (WF td ty tx):=by
 intro pins s σ H Q I h
 refine wpAny_Call_method m.base m.few m.line PySem.F.plainAttrs_dict i5 PySem.F.type_dict_get (thn (ho pins s σ H _ I h) λu s1 ⟨x,H1,I1,rx,a,ex,d,q1⟩=>?_)
 subst ex
 obtain rfl:u=aS a:=rx
 obtain ⟨t1,t2,_⟩:=WI I1 d
 refine ⟨t1,t2,?_⟩
 rw [m.trees]
 refine fL rfl (ij (iP (thn (he pins s1 σ H1 _ I1 q1) λiv s2 ⟨y,H2,I2,ry,q2⟩ =>
  iP (thn (hf pins s2 σ H2 _ I2 q2) λfv s3 ⟨z,H3,I3,rz,ov,g,q3⟩=>ow ?_))))
 exact WJ hu I3 g ry rz λw' s4 I4 rw'=>⟨_,H3,I4,rw',q3⟩
end
section
variable {X:Cx}{pins:List (Addr×Obj)}{σ:St}{H:Hp}{s:Shared}{a:Addr}{kvs:List (Key×V)}{A:bj}{E:ag->Shared->Prop}
end
section
variable {X:Cx}{pins:List (Addr×Obj)}{σ:St}{H:Hp}{s:Shared}{a:Addr}{y:V}{u:ag}{A:bj}{E:ag->Shared->Prop}
end
end L2
namespace Att
open PySem PySem.W PySem.Calls PyProof.Rows
section
variable {prog:Program}{w:b9}{A:bj}{E:ag->Shared->Prop}{s:Shared}{K:Frag}
end
end Att
namespace L2
end L2
namespace L2
end L2
namespace L2
section
variable {P:Program}{w:b9}{K:ah}{mg:Str->Option ag}{base:Heap}
end
section
variable {X:Cx}
end
section
variable {κ:Type} [DecidableEq κ]
theorem wD:∀{l:List κ}{k:κ},l.Nodup->¬k∈l->(l++[k]).Nodup
 | [],k,_,_=>by simp
 | a::r,k,h,hk=>by
  obtain ⟨h1,h2⟩:=List.nodup_cons.mp h
  show (a::(r++[k])).Nodup
  refine List.nodup_cons.mpr ⟨λm=>?_,wD h2 λm=>hk (List.mem_cons.mpr (iS m))⟩
  rcases List.mem_append.mp m with q | q
  ·exact h1 q
  ·exact hk (List.mem_cons.mpr (aP (List.mem_singleton.mp q).symm))
end
end L2
end
section
namespace L2
open PySem.W
section
variable {prog:Program}{w:b9}{A:bj}{E:ag->Shared->Prop}{s:Shared}
theorem QV {its:List ag}{κ:rM}{lt:Nat->Nat->Bool}{G:List Nat->Prop}{Q:ag->Shared->Prop}(h64:its.length<64)
  (hk:2<=its.length->∀h',(∀b o,s.heap.get? b=some o->h'.get? b=some o)->∀Q':rM->Shared->Prop,Q' κ { s with heap:=h' }->ay (aD prog w) A.in1.in1 (keyKind' its.toArray) Q' (λ_ _=>False) { s with heap:=h' })
  (hc:∀h',(∀b o,s.heap.get? b=some o->h'.get? b=some o)->∀i j,i<its.length->j<its.length->∀Q':Bool->Shared->Prop,Q' (lt i j) { s with heap:=h' } ->
   ay (aD prog w) A.in1.in1 (keyLt' κ (its.getD i b8) (its.getD j b8)) Q' (λ_ _=>False) { s with heap:=h' })
  (hs:2<=its.length->xa lt its.length (sV its.length) λp=>qu its.length p/\G p.toList) (h1:its.length<2->G (aG its.length))
  (h:∀(ix:List Nat) (h':Heap) (n:Nat),ix.Perm (aG its.length)->G ix->(∀b o,s.heap.get? b=some o->h'.get? b=some o) ->
   h'.get? (s.heap.objs.size)=some (bt "list" (ix.map λi=>its.getD i b8).toArray n)->Q (.ref (s.heap.objs.size)) { s with heap:=h' }) :
  ay (aD prog w) A.in1 (pV its >>= λl=>dG [l] (call (.builtin "list.sort") [l] []) >>= λ_=>ret l) (λfin s'=>∃v,fin = .done (.ret v)/\Q v s') E s:=by
 refine ae (fk ?_ (by rw [bA];omega))
 have ho:(s.heap.push (bt "list" its.toArray 0)).get? (s.heap.objs.size)=some (bt "list" its.toArray 0):=az _ rfl
 have keep:∀b o,s.heap.get? b=some o->(s.heap.push (bt "list" its.toArray 0)).get? b=some o:=λb o q=>by
  exact ai _ q
 show ay _ _ _ _ _ { s with heap:=s.heap.push (bt "list" its.toArray 0) }
 refine ae (bP (d8 mM ⟨_,ho,rfl⟩ mi ?body (rO _)))
 case body =>
  generalize hh0:s.heap.push (bt "list" its.toArray 0)=h0 at ho keep
  generalize ha:s.heap.objs.size=a at ho h
  have aNew:∀b o,s.heap.get? b=some o->b≠a:=λb o q=>by have:=aw q;rw [<- ha];exact aA this
  show ay (aD prog w) A.in1.in1 (dW.«list.sort» ⟨[.ref a],[]⟩) _ _ { s with heap:=h0 }
  rw [pN]
  have hal:a<h0.objs.size:=aw ho
  refine ae (m7 ho rfl ?_)
  refine ae (cM ho rfl ?_ (by rw [ar,bA];omega) (aC _))
  obtain ⟨e1,ho1⟩:∃e1,(h0.update a (aY λ_=>(#[]:Array ag))).get? a=some (bt "list" #[] e1):=⟨_,eE ho (λ_=>#[])⟩
  refine ae (eQ ho1 rfl ?_)
  refine ae (iT ?_ (by show its.length<=_;rw [bA];omega))
  refine ae (fk ?_ (aC _))
  refine bP ?_
  have ho6:(((h0.update a (aY λ_=>(#[]:Array ag))).push (bt "tuple" its.toArray 0)).push (bt "list" #[] 0)).get? a=some (bt "list" #[] e1):=by
   rw [cA _ _ _ (by rw [nR,dM];exact aA (cc hal)),cA _ _ _ (by rw [dM];exact aA hal)]
   exact ho1
  have keep6:∀b o,s.heap.get? b=some o->(((h0.update a (aY λ_=>(#[]:Array ag))).push (bt "tuple" its.toArray 0)).push (bt "list" #[] 0)).get? b=some o:=λb o q =>
   ai _ (ai _ ((c0 _ _ _ _ (aNew b o q)).trans (keep b o q)))
  show ay (aD prog w) A.in1.in1 _ _ _ { s with heap:=((h0.update a (aY λ_=>(#[]:Array ag))).push (bt "tuple" its.toArray 0)).push (bt "list" #[] 0) }
  generalize ((h0.update a (aY λ_=>(#[]:Array ag))).push (bt "tuple" its.toArray 0)).push (bt "list" #[] 0)=h6 at ho6 keep6
  dsimp only
  have fin:∀(ix:List Nat),ix.Perm (aG its.length)->G ix->∀out:Array ag,out=(ix.map λi=>its.getD i b8).toArray ->
    ∃v,rP (Flow.ret b8) = .done (.ret v)/\ay (aD prog w) A.in1 (do let _ <- pure v;ret (aS a)) (λfin s'=>∃v,fin = .done (.ret v)/\Q v s') E { s with heap:=h6.update a (aY λ_=>out) }:=λix hp hg out ho'=>by
   refine ⟨_,rfl,ae (wpAny_pure (wpAny_pure ⟨_,rfl,?_⟩))⟩
   subst ho'
   exact h ix _ _ hp hg (λb o q=>(c0 _ _ _ _ (aNew b o q)).trans (keep6 b o q)) (eE ho6 λ_=>_)
  by_cases h2:its.toArray.size<2
  ·rw [if_pos h2,if_pos h2]
   refine ae (wpAny_pure ?_)
   rw [mj]
   refine ae (wpAny_pure ?_)
   dsimp only
   refine ae (eQ ho6 rfl ?_)
   rw [uq]
   refine ae (cM ho6 rfl ?_ (aC _) (by rw [ar,bA];omega))
   simp only [bne_self_eq_false,cJ,if_false]
   rw [ar] at h2
   exact wpAny_pure (fin _ (mO _) (h1 h2) _ (by rw [vG]))
  ·rw [if_neg h2,if_neg h2]
   rw [ar] at h2
   refine ae (ba (hk ∅ h6 keep6 (λκ' s'=>κ'=κ/\s'={ s with heap:=h6 }) ⟨rfl,rfl⟩) (λκ' s' q=>?_) λ_ _ x=>x.elim)
   obtain ⟨rfl,rfl⟩:=q
   refine ae (ba (kat_run (ks:=its) (vs:=its) (κ:=κ') (G:=λp s'=>(qu its.length p/\G p.toList)/\s'={ s with heap:=h6 }) (Q:=λst' s'=>∃p:Array Nat,arrOf st'=p.map (sW (its.toArray.zip its.toArray))/\rQ st'=none/\(qu its.length p/\G p.toList)/\s'={ s with heap:=h6 })
    rfl ∅ h64 (λp st' s' a1 a2 a3 a4=>⟨p,a2,a3,a4⟩) (xa.wp (I:=λs'=>s'={ s with heap:=h6 }) (λi j C s' hi hj hI hC=>?_) (λp s' hp hI=>⟨hp,hI⟩) (hs ∅) rfl)) ?_ λ_ _ e=>e)
   ·subst hI
    exact hc h6 keep6 i j hi hj C (hC _ rfl)
   ·rintro ⟨⟨⟩,st'⟩ s' ⟨p,har,hf,⟨hP,hG⟩,rfl⟩
    dsimp only
    have hout:=sX (ks:=its) (vs:=its) rfl har
    have hz:(oG (p.toList.map λi=>its.getD i b8)).size=its.length:=by rw [ar,af,cF,hP.size]
    rw [hout]
    refine ae (eQ ho6 rfl ?_)
    refine ae (cM ho6 rfl ?_ (aC _) (by rw [hz,bA];omega))
    rw [hf]
    simp only [bne_self_eq_false,cJ,if_false]
    exact wpAny_pure (fin p.toList (by have:=Array.perm_iff_toList_perm.mp hP;simpa using this) hG _ rfl)
theorem XM {v:ag}{Q:ag->Shared->Prop}(hcol:ay (aD prog w) A.in1 (collect v) (λits s1=>ay (aD prog w) A.in1 (pV its >>= λl=>dG [l] (call (.builtin "list.sort") [l] []) >>= λ_=>ret l) (λfin s'=>∃v,fin = .done (.ret v)/\Q v s') E s1) E s) :
  ay (aD prog w) A (call (.builtin "sorted") [v]) Q E s:=by
 refine iW pL oE oF (args_sorted1 _) ?_
 unfold dW.«sorted»
 refine ae (m:=rN "sorted" 1 1 _) (wpAny_pure ?_)
 exact ae hcol
end
section
variable {X:Cx}
theorem Inv.laidN {pins:List (Addr×Obj)}{σ:St}{H:Hp}{s:Shared}{h':Heap}{a:Addr}{o:HO}{t':Nat}(I:Inv X pins σ H s) (k:∀b u,s.heap.get? b=some u->h'.get? b=some u) (hn:s.heap.get? a=none) (new:H a=none->qi X.prog X.w (upd H a o) h' a o):H a=none/\Inv X pins σ (upd H a o) { s with heap:=h',toks:=t' }:=by
 have hH:H a=none:=by
  cases q:H a with
  | none=>rfl
  | some u =>
   obtain ⟨ob,e⟩:=ko (I.hok a u q)
   rw [hn] at e
   cases e
 have ne:∀{b u},s.heap.get? b=some u->b≠a:=λe z=>by rw [z,hn] at e;cases e
 refine ⟨hH,I.un ⟨λb u q _ _ _=>k b u q,λb u q _ _ _=>⟨u.slots,k b u q⟩,λb u q n _=>by rw [j6 (ne q)];exact n,λb u q _=>⟨u,k b u q⟩,λb xs q=>by rw [j6 (j1 q hH)];exact q,λb u xs q=>by rw [j6 (j1 q hH)];exact q,λb ps q=>⟨#[],by rw [j6 (j1 q hH),q];simp⟩⟩ λb u e=>?_⟩
 by_cases hb:b=a
 ·subst hb;rw [j5] at e;cases e;exact new hH
 ·rw [j6 hb] at e
  exact (I.hok b u e).stay (λc v _ q=>k c v q) (λc q=>by rw [j6 (j1 q hH)];exact q) λc xs q=>by rw [j6 (j1 q hH)];exact q
theorem JU (K:ah) (hca:X.calm=true) (hK:X.K=K:=by rfl):xc X (.builtin "sorted") (λxs H Q=>∃(p:Addr) (kvs:List (Key×V)) (ns:List Int),xs=[.ref p]/\H p=some (.dK kvs)/\kvs.map (·.1)=ns.map dX/\ns.length<64 /\
  ∀(l:Addr) H' (ns':List Int),H l=none->H' l=some (.lst (ns'.map V.int))->jn H H'->ns'.Perm ns->ns'.Pairwise (· <= ·)->Q (.ref l) H'):=by
 subst hK
 intro pins s σ H xs us Q I r h
 obtain ⟨p,kvs,ns,rfl,hp0,hks,h64,k⟩:=h
 obtain ⟨u,rfl,ru⟩:=yV r
 cases ru
 obtain ⟨hz,lo,vs,kv,dd⟩:=U4 I.hok hp0
 obtain ⟨ep,hat⟩:=dd.dictAt
 have hvl:vs.length=ns.length:=by
  have e1:kvs.length=vs.length:=aK kv
  have e2:=congrArg lh hks
  rw [af,af] at e2
  omega
 refine XM (kdu_collect (kdl_dict (knd:=jv X.prog X.w) (kvs:=vs) (ep:=ep) lo) (I.ok.hd hca) hat (eV (jg ∅)) λh1 tk acc hk1 hacc=>?_)
 have hal:acc.toList.length=ns.length:=by rw [cF,hacc.1,hvl]
 have item:∀i,i<acc.toList.length->∃t,acc.toList.getD i b8 = .int (ns.getD i 0) t:=λi hi=>by
  have hi2:i<acc.size:=by rw [cF] at hi;exact hi
  obtain ⟨key,x,hx,his⟩:=hacc.2 i acc[i] (iX hi2)
  have hi3:i<kvs.length:=by
   have e1:kvs.length=vs.length:=aK kv
   omega
  obtain ⟨q,hq,e1,_⟩:=Paired.get kv (aa hi3)
  rw [hx] at hq
  cases hq
  have e2:(kvs.map (·.1))[i]? = some key:=by rw [av,aa hi3];exact congrArg some e1
  have hin:i<ns.length:=∅
  rw [hks,av,aa hin] at e2
  cases e2
  obtain ⟨t,et⟩:=iZ his
  refine ⟨t,?_⟩
  rw [ao,mv,iX hi2,et,ao,aa hin]
  rfl
 generalize acc.toList=its at hal item
 refine QV (s:={ s with heap:=h1,toks:=tk }) (κ:=oneType') (lt:=ltK Uk λi=>ns.getD i 0) (G:=λix=>(ix.map λi=>ns.getD i 0).Pairwise Uk.kle) ∅ (λh2 h' hk' Q' q=>?_) (λh' hk' i j hi hj Q' q=>?_) (λh2=>?_) (λh1=>?_) λix h' n hp hg hk' hn=>?_
 ·refine kas_kind (T:=.type "int") h2 (λv hv=>?_) rfl rfl q
  obtain ⟨i,hi,rfl⟩:=List.mem_iff_getElem.mp hv
  obtain ⟨t,e1⟩:=item i hi
  have e3:its[i] = .int (ns.getD i 0) t:=by rw [<- e1];simp [hi]
  rw [e3]
  exact sA rfl
 ·obtain ⟨t,e1⟩:=item i hi
  obtain ⟨u,e2⟩:=item j hj
  rw [e1,e2]
  exact kat_lt_int q
 ·exact kg ∅ λp' hP hS=>⟨hP,hS.pairwise hP.size⟩
 ·have hcase:its.length=0\/its.length=1:=∅
  rcases hcase with z | z
  ·rw [z];exact fM
  ·rw [z];exact fC _ _
 ·have hn0:s.heap.get? h1.objs.size=none:=by
   cases q:s.heap.get? h1.objs.size with
   | none=>rfl
   | some u=>exact absurd (aw (hk1 _ _ q)) (cq _)
  have hv:jC ((ix.map λi=>ns.getD i 0).map V.int) (ix.map λi=>its.getD i b8):=by
   have hb:∀i∈ix,i<its.length:=λi hi=>by have:=hp.mem_iff.mp hi;simpa using this
   clear hp hg hn
   induction ix with
   | nil=>exact .nil
   | cons i ix ih =>
    obtain ⟨t,e⟩:=item i (hb i aI)
    exact .cons ⟨t,e⟩ (ih λj hj=>hb j (aE _ hj))
  have hns:((aG its.length).map λi=>ns.getD i 0)=ns:=by
   apply lN
   ·simp [hal]
   ·intro i h1 h2
    simp [h2]
  have hsz:((ix.map λi=>ns.getD i 0).map V.int).length<=sizeLine:=by
   rw [af,af,hp.length_eq,br]
   exact aF (by omega:its.length<=1000) ⋯
  obtain ⟨hf,J⟩:=Inv.laidN (o:=.lst ((ix.map λi=>ns.getD i 0).map V.int)) (t':=tk) I (λb o e=>hk' b o (hk1 b o e)) hn0 λ_=>⟨hsz,_,n,hv,hn⟩
  refine ⟨.ref _,upd H h1.objs.size (.lst ((ix.map λi=>ns.getD i 0).map V.int)),J,rfl,k _ _ _ hf j5 (jn.new hf) ?_ ?_⟩
  ·have:=hp.map λi=>ns.getD i 0
   rw [hns] at this
   exact this
  ·exact List.Pairwise.imp (R:=Uk.kle) (λ{a b} z=>V5 z) hg
end
end L2
end
section
namespace L2
open PySem.W
theorem Inv.freeze {X:Cx}{pins:List (Addr×Obj)}{σ:St}{H:Hp}{s:Shared}{a:Addr}{o:Obj}{kvs:List (Key×V)}(I:Inv X pins σ H s) (e:H a=some (.dK kvs)) (ho:s.heap.get? a=some o):Inv X pins σ (upd H a (.frz o (.dK kvs))) s:=by
 refine I.un (t':=s.toks) ⟨λb u q _ _ _=>q,λb u q _ _ _=>⟨u.slots,q⟩,λb u q n _=>?_,λb u q _=>⟨u,q⟩,λb xs q=>?_,λb u xs q=>?_,λb ps q=>⟨#[],?_⟩⟩ λb u q=>?_
 ·rw [j6 (λz=>by rw [z,e] at n;cases n)];exact n
 ·rw [j6 (ji q e (by intro z;cases z))];exact q
 ·rw [j6 (ji q e (by intro z;cases z))];exact q
 ·rw [j6 (ji q e (by intro z;cases z)),q];simp
 ·by_cases hb:b=a
  ·subst hb
   rw [j5] at q
   cases q
   exact ⟨ho,I.hok _ _ e⟩
  ·rw [j6 hb] at q
   exact (I.hok b u q).stay (λc v _ q=>q) (λc q=>by rw [j6 (ji q e (by intro z;cases z))];exact q) λc xs q=>by rw [j6 (ji q e (by intro z;cases z))];exact q
noncomputable def Itd (a:Addr) (o:Obj) (kvs:List (Key×V)):It :=
 ⟨λi H=>H a=some (.frz o (.dK kvs))/\i<kvs.length,λi H x H'=>H'=H/\∃q,kvs[i]? = some q/\x=kV q.1,λi H=>H a=some (.frz o (.dK kvs))/\kvs.length<=i⟩
theorem relK {P:Program}{w:b9}{k:Key}{v:ag}(h:(jv P w).is k v=true):jE (kV k) v:=by
 cases k with
 | inl i=>exact iZ h
 | inr x=>exact nh h
theorem YF {P:Program}{w:b9}{K:ah}{tg:Expr}{a it:Addr}{o:Obj}{kvs:List (Key×V)}{vs:List (Key×ag)}{ep:Nat}(kv:KV kvs vs) (HD:∀h:Heap,h.get? a=some o->h.DictAt (jv P w) a vs ep):Turn P w K tg (Itd a o kvs) [it] it (λi h=>h.IsKeyIter it a i vs.length ep) where
 mem:=by simp
 obj:=λi h st b hb=>by
  have e:b=it:=by simpa using hb
  subst e
  obtain ⟨o,e,c,d⟩:=st
  exact ⟨o,e,λv z=>by rw [d] at z;cases z⟩
 keep:=λi h h' st k=>st.at λo e=>k it (by simp) o e
 item:=by
  intro X hP hw hK hc i pins s σ H E I hf st hg
  subst hP hw hK
  obtain ⟨hq,hi⟩:=hg
  have hat:=HD s.heap (I.hok _ _ hq).1
  have hl:kvs.length=vs.length:=aK kv
  obtain ⟨f0,f1,f2,f3,f4,f5⟩:=hf it (by simp)
  obtain ⟨⟨k,x⟩,hx,ek,_⟩:=Paired.get kv (aa hi)
  refine wpAny_pyNext_dict_item st hat hx λkey h' hkey st' sb=>?_
  have I1:Inv X pins σ H { s with heap:=h' }:=I.turned (t':=s.toks) (λb o hb e=>(sb.2 b hb).trans e) f0 f1 f3 f4 f5
  obtain ⟨ob,e,c,d⟩:=id st'
  exact ⟨key,rfl,Qj (s:={ s with heap:=h' }) e c d ⋯ ⟨kV k,H,I1,relK hkey,⟨rfl,_,aa hi,by rw [show (kvs[i]'hi).1=k from ek]⟩,st',λb hb=>(hf b hb).1⟩⟩
 done:=by
  intro X hP hw hK hc i pins s σ H E I hf st hg
  subst hP hw hK
  obtain ⟨hq,hi⟩:=hg
  have hat:=HD s.heap (I.hok _ _ hq).1
  have hl:kvs.length=vs.length:=aK kv
  obtain ⟨f0,f1,f2,f3,f4,f5⟩:=hf it (by simp)
  exact wpAny_pyNext_dict_end (I.ok.hd hc) st hat (by simp;omega) λh' eb=>⟨rfl,I.turned (t':=s.toks) (λb o hb e=>eb b o hb e) f0 f1 f3 f4 f5⟩
 self:=λ_ _ _ _ _ st h=>wpAny_pyIter_keyiter st h
noncomputable def iDic (td:TE):TI:=λσ H R=>td σ H λx H1=>∃a kvs,x = .ref a/\((H1 a=some (.dK kvs)/\∀o,R (Itd a o kvs) (upd H1 a (.frz o (.dK kvs))))\/∃o,H1 a=some (.frz o (.dK kvs))/\R (Itd a o kvs) H1)
theorem wC {X:Cx}{tg l:Expr}{td:TE}(hl:PE X l td):PI X tg l (iDic td):=by
 intro pins s σ H R I h
 refine thn (hl pins s σ H _ I h) λv s1 ⟨x,H1,I1,r1,a,kvs,e,q⟩=>?_
 subst e
 cases r1
 have main:∀{H2:Hp} {o:Obj},Inv X pins σ H2 s1->H2 a=some (.frz o (.dK kvs))->R (Itd a o kvs) H2->ay (aD X.prog X.w) X.A (mF (.ref a)) (PIE X pins σ tg R) X.xe s1:=λ{H2 o} I2 e2 q2=>by
  have ho:=(I2.hok _ _ e2).1
  obtain ⟨hz,lo,vs,kv,dd⟩:=wf I2.hok (.inr ⟨o,e2⟩)
  obtain ⟨ep,ob,es,h1,hrest⟩:=dd.dictAt
  rw [ho] at h1
  cases h1
  have HD:∀h:Heap,h.get? a=some o->h.DictAt (jv X.prog X.w) a vs ep:=λh e=>⟨o,es,e,hrest⟩
  refine wpAny_pyIter_dict lo (HD _ ho) ?_
  refine ⟨s1.heap.objs.size,[s1.heap.objs.size],_,_,H2,rfl,I2.kept (t':=s1.toks) λb o e=>ai _ e,YF kv HD,⟨_,az _ rfl,rfl,rfl⟩,λb hb=>?_,q2⟩
  have e:b=s1.heap.objs.size:=by simpa using hb
  subst e
  exact I2.fpOk (aq _) (I2.hok.fresh (aq _))
 rcases q with ⟨e1,q1⟩ | ⟨o,e1,q1⟩
 ·obtain ⟨hz,lo,vs,kv,dd⟩:=wf I1.hok (.inl e1)
  obtain ⟨ep,ob,es,h1,hrest⟩:=dd.dictAt
  exact main (I1.freeze e1 h1) j5 (q1 ob)
 ·exact main I1 e1 q1
theorem QN {a:Addr}{o:Obj}{kvs:List (Key×V)}{g:TG}{tb:TS}{D:Ends}{σ:St}{H:Hp}(Pv:Nat->St->Hp->Prop) (h0:Pv 0 σ H) (hl:∀i σ H,i<=kvs.length->Pv i σ H->H a=some (.frz o (.dK kvs)))
  (hs:∀i q σ H,kvs[i]? = some q->Pv i σ H->g (kV q.1) σ H λσ2 H2=>tb { D with nx:=Pv (i+1),ct:=Pv (i+1),bk:=D.nx } σ2 H2) (hd:∀σ H,Pv kvs.length σ H->D.nx σ H) :
  ∃W:Nat->Nat->St->Hp->Prop,(∃m,W 0 m σ H)/\∀i m σ H,W i m σ H ->
   ((Itd a o kvs).stop i H/\D.nx σ H)\/((Itd a o kvs).go i H/\∃N:St->Hp->Prop,(∀σ' H',N σ' H'->∃m',m'<m/\W (i+1) m' σ' H')/\∀x H',(Itd a o kvs).yld i H x H'->g x σ H' λσ2 H2=>tb { D with nx:=N,ct:=N,bk:=D.nx } σ2 H2):=by
 refine ⟨λi m σ H=>m=kvs.length-i/\i<=kvs.length/\Pv i σ H,⟨kvs.length,by simp,aC _,h0⟩,?_⟩
 rintro i m σ H ⟨rfl,hi,p⟩
 have q:=hl i σ H hi p
 by_cases hlt:i<kvs.length
 ·refine .inr ⟨⟨q,hlt⟩,Pv (i+1),λσ' H' p'=>⟨kvs.length-(i+1),∅,rfl,hlt,p'⟩,λx H' y=>?_⟩
  obtain ⟨e,z,hz,ex⟩:=y
  subst e ex
  exact hs i z σ _ hz p
 ·obtain rfl:i=kvs.length:=∅
  exact .inl ⟨⟨q,aq _⟩,hd σ H p⟩
theorem Yg {a acc:Addr}{o:Obj}{kvs:List (Key×V)}{g:TG}{ti:TT}{te:TE}{R:Hp->Prop}{σ:St}{H:Hp}(Pv:Nat->St->Hp->Prop) (h0:Pv 0 σ H) (hl:∀i σ H,i<=kvs.length->Pv i σ H->H a=some (.frz o (.dK kvs)))
  (hs:∀i q σ H,kvs[i]? = some q->Pv i σ H->g (kV q.1) σ H λσ3 H3=>ti σ3 H3 λok H4=>if ok=true then te σ3 H4 λv H5=>∃ys,H5 acc=some (.lst ys)/\ys.length<sizeLine/\Pv (i+1) σ3 (upd H5 acc (.lst (ys++[v]))) else Pv (i+1) σ3 H4)
  (hd:∀σ H,Pv kvs.length σ H->R H) :
  ∃W:Nat->Nat->St->Hp->Prop,(∃m,W 0 m σ H)/\∀i m σ' H',W i m σ' H' ->
   ((Itd a o kvs).stop i H'/\R H')\/((Itd a o kvs).go i H'/\∃NX:St->Hp->Prop,(∀σ2 H2,NX σ2 H2->∃m',m'<m/\W (i+1) m' σ2 H2) /\
    ∀x H2,(Itd a o kvs).yld i H' x H2->g x σ' H2 λσ3 H3=>ti σ3 H3 λok H4=>if ok=true then te σ3 H4 λv H5=>∃ys,H5 acc=some (.lst ys)/\ys.length<sizeLine/\NX σ3 (upd H5 acc (.lst (ys++[v]))) else NX σ3 H4):=by
 refine ⟨λi m σ H=>m=kvs.length-i/\i<=kvs.length/\Pv i σ H,⟨kvs.length,by simp,aC _,h0⟩,?_⟩
 rintro i m σ H ⟨rfl,hi,p⟩
 have q:=hl i σ H hi p
 by_cases hlt:i<kvs.length
 ·refine .inr ⟨⟨q,hlt⟩,Pv (i+1),λσ' H' p'=>⟨kvs.length-(i+1),∅,rfl,hlt,p'⟩,λx H' y=>?_⟩
  obtain ⟨e,z,hz,ex⟩:=y
  subst e ex
  exact hs i z σ _ hz p
 ·obtain rfl:i=kvs.length:=∅
  exact .inl ⟨⟨q,aq _⟩,hd σ H p⟩
end L2
end
section
namespace L2
open PySem.W
theorem Yx {P:Program}{w:b9}{K:ah}{tg:Expr}(it:Addr) (lo:Int) (n:Nat):Turn P w K tg (Itr lo n) [it] it (λi h=>IsLongIter h it (lo+(i:Nat)*1) ((n:Int)-(i:Nat)) 1) where
 mem:=by simp
 obj:=λi h st b hb=>by
  have e:b=it:=by simpa using hb
  subst e
  exact ⟨_,st,λv z=>by
   have z':mG _=lJ v:=z
   cases z'⟩
 keep:=λi h h' st k=>k it (by simp) _ st
 item:=by
  intro X hP hw hK hc i pins s σ H E I hf st hg
  subst hP hw hK
  obtain ⟨f0,f1,f2,f3,f4,f5⟩:=hf it (by simp)
  have W:=Walks.longrange (prog:=X.prog) (w:=X.w) (I.ok.hd hc) it lo 1 n
  refine W.item i s _ _ hg st λv h' tk hv st' kk=>?_
  obtain ⟨t,rfl⟩:=hv
  have I1:Inv X pins σ H { s with heap:=h',toks:=tk }:=I.turned (λb o hb e=>kk b o (by simpa using hb) e) f0 f1 f3 f4 f5
  refine ⟨_,rfl,Qj (s:={ s with heap:=h',toks:=tk }) (n:="longrange_iterator") st' rfl rfl ⋯ ⟨.int (lo+i),H,I1,⟨t,?_⟩,⟨rfl,rfl⟩,st',λb hb=>(hf b hb).1⟩⟩
  rw [Int.mul_one]
 done:=by
  intro X hP hw hK hc i pins s σ H E I hf st hg
  subst hP hw hK
  obtain ⟨f0,f1,f2,f3,f4,f5⟩:=hf it (by simp)
  exact wpAny_pyNext_long_end (I.ok.hd hc) st (by have:n<=i:=hg;omega) λh' eb=>⟨rfl,I.turned (t':=s.toks) (λb o hb e=>eb b o hb e) f0 f1 f3 f4 f5⟩
 self:=λ_ _ _ _ _ st h=>wpAny_pyIter_longiter st h
section
variable {X:Cx}{tg:Expr}
theorem YA {pins:List (Addr×Obj)}{σ:St}{H:Hp}{s:Shared}{R:It->Hp->Prop}{E:ag->Shared->Prop}{lo hi:Int}{t u v:Tok}{tk:Nat}(I:Inv X pins σ H s)
  (q:R (Itr lo (hi-lo).toNat) H):ay (aD X.prog X.w) X.A (mF (.ref s.heap.objs.size)) (PIE X pins σ tg R) E { s with heap:=s.heap.push { cls:=.type "range",data:=.fields #[.int lo t,.int hi u,.int 1 v] },toks:=tk }:=by
 have I1:Inv X pins σ H { s with heap:=s.heap.push { cls:=.type "range",data:=.fields #[.int lo t,.int hi u,.int 1 v] },toks:=tk }:=I.kept λb o e=>ai _ e
 have e1:lo+((0:Nat):Int)*1=lo:=by simp
 have e2:(((hi-lo).toNat:Nat):Int)-((0:Nat):Int)=lK lo hi 1:=by rw [sr];split <;> omega
 have fp:∀b∈[(s.heap.push { cls:=.type "range",data:=.fields #[.int lo t,.int hi u,.int 1 v] }).objs.size],_:=λb hb=>by
  have e:b=(s.heap.push { cls:=.type "range",data:=.fields #[.int lo t,.int hi u,.int 1 v] }).objs.size:=by simpa using hb
  subst e
  exact I1.fpOk (aq _) (I1.hok.fresh (aq _))
 by_cases sm:Builtin.Range.small lo hi 1=true
 ·refine nK (pH ..) sm ?_
  refine ⟨(s.heap.push { cls:=.type "range",data:=.fields #[.int lo t,.int hi u,.int 1 v] }).objs.size,[(s.heap.push { cls:=.type "range",data:=.fields #[.int lo t,.int hi u,.int 1 v] }).objs.size],_,_,H,rfl,
   I1.kept (t':=tk) λb o e=>ai _ e,kQ _ lo (hi-lo).toNat,?_,fp,q⟩
  show pG _ _ (lo+((0:Nat):Int)*1) ((((hi-lo).toNat:Nat):Int)-((0:Nat):Int)) 1
  rw [e1,e2]
  exact az _ rfl
 ·refine wpAny_pyIter_longrange (pH ..) (by simpa using sm) ?_
  refine ⟨(s.heap.push { cls:=.type "range",data:=.fields #[.int lo t,.int hi u,.int 1 v] }).objs.size,[(s.heap.push { cls:=.type "range",data:=.fields #[.int lo t,.int hi u,.int 1 v] }).objs.size],_,_,H,rfl,
   I1.kept (t':=tk) λb o e=>ai _ e,Yx _ lo (hi-lo).toNat,?_,fp,q⟩
  show IsLongIter _ _ (lo+((0:Nat):Int)*1) ((((hi-lo).toNat:Nat):Int)-((0:Nat):Int)) 1
  rw [e1,e2]
  exact az _ rfl
noncomputable def Gx (ta:TA):TI:=λσ H R=>ta σ H λvs H1=>∃i j:Int,vs=[.int i,.int j]/\R (Itr i (j-i).toNat) H1
theorem Y1 {a b:Expr}{ta:TA}{p pos:Pos}(hg:Gl X "range") (hm:X.mg "range" = none) (ha:PA X [a,b] ta) (hs:aO [a,b] X.env=[(false,eval a X.env),(false,eval b X.env)]:=by rfl) (hs2:aO [b] X.env=[(false,eval b X.env)]:=by rfl) :
  PI X tg (.Call (.Name "range" p) [a,b] [] pos) (Gx ta):=by
 intro pins s σ H R I h
 refine t7 (yq I hg hm rp (c3 (thn (ha pos pins s σ H _ I h) λus s1 ⟨vs,H1,I1,r1,q1⟩=>?_) (by rw [hs,hs2]) (by rw [hs2];rfl)))
 obtain ⟨i,j,e,q⟩:=q1
 subst e
 cases r1 with
 | cons r rr =>
  cases rr with
  | cons r' rr =>
   cases rr
   obtain ⟨t,rfl⟩:=r
   obtain ⟨t',rfl⟩:=r'
   exact call_range_2 (YA I1 q)
end
end L2
end
section
namespace L2
open PySem.W
noncomputable def Fz (a:Addr) (kvs:List (Key×V)) (o:Obj) (H H4:Hp):Prop:=H4 a=some (.frz o (.dK kvs))/\(H4=H\/(H a=some (.dK kvs)/\H4=upd H a (.frz o (.dK kvs))))
theorem Fz.at {a:Addr}{kvs:List (Key×V)}{o:Obj}{H H4:Hp}(f:Fz a kvs o H H4) {c:Addr}{u:HO}(h:H c=some u) (n:c≠a):H4 c=some u:=by
 rcases f.2 with rfl | ⟨_,rfl⟩
 ·exact h
 ·rw [j6 n];exact h
theorem uQ {a:Addr}{kvs:List (Key×V)}{g:TG}{tb:TS}{D:Ends}{σ:St}{H:Hp}(h:Rd H a (.dK kvs)) (Pv:Obj->Nat->St->Hp->Prop) (h0:∀o H4,Fz a kvs o H H4->Pv o 0 σ H4) (hl:∀o i σ H,i<=kvs.length->Pv o i σ H->H a=some (.frz o (.dK kvs)))
  (hs:∀o i q σ H,kvs[i]? = some q->Pv o i σ H->g (kV q.1) σ H λσ2 H2=>tb { D with nx:=Pv o (i+1),ct:=Pv o (i+1),bk:=D.nx } σ2 H2) (hd:∀o σ H,Pv o kvs.length σ H->D.nx σ H) :
  ∃a' kvs',V.ref a = .ref a'/\((H a'=some (.dK kvs')/\∀o,∃W:Nat->Nat->St->Hp->Prop,(∃m,W 0 m σ (upd H a' (.frz o (.dK kvs'))))/\∀i m σ H,W i m σ H ->
   ((Itd a' o kvs').stop i H/\D.nx σ H)\/((Itd a' o kvs').go i H/\∃N:St->Hp->Prop,(∀σ' H',N σ' H'->∃m',m'<m/\W (i+1) m' σ' H')/\∀x H',(Itd a' o kvs').yld i H x H'->g x σ H' λσ2 H2=>tb { D with nx:=N,ct:=N,bk:=D.nx } σ2 H2)) \/
   ∃o,H a'=some (.frz o (.dK kvs'))/\∃W:Nat->Nat->St->Hp->Prop,(∃m,W 0 m σ H)/\∀i m σ H,W i m σ H ->
   ((Itd a' o kvs').stop i H/\D.nx σ H)\/((Itd a' o kvs').go i H/\∃N:St->Hp->Prop,(∀σ' H',N σ' H'->∃m',m'<m/\W (i+1) m' σ' H')/\∀x H',(Itd a' o kvs').yld i H x H'->g x σ H' λσ2 H2=>tb { D with nx:=N,ct:=N,bk:=D.nx } σ2 H2)):=by
 rcases h with h | ⟨o,h⟩
 ·exact ⟨a,kvs,rfl,.inl ⟨h,λo=>QN (a:=a) (o:=o) (kvs:=kvs) (Pv o) (h0 o _ ⟨j5,.inr ⟨h,rfl⟩⟩) (hl o) (hs o) (hd o)⟩⟩
 ·exact ⟨a,kvs,rfl,.inr ⟨o,h,QN (a:=a) (o:=o) (kvs:=kvs) (Pv o) (h0 o _ ⟨h,.inl rfl⟩) (hl o) (hs o) (hd o)⟩⟩
end L2
end
section
namespace L2
open PySem.W
section
variable {prog:Program}{w:b9}{A:bj}{E:ag->Shared->Prop}{s:Shared}
theorem Uj:rG (.type "list") "keys" = pure none:=by rw [typeLookup_type,builtinLookup_eq_fast];kernel_rfl
theorem gW {a:Addr}{o:Obj}{xs:Array ag}{k:Nat}{Q:Option ag->Shared->Prop}(hx:s.heap.get? a=some o) (hc:o.cls = .type "list") (hdat:o.data = .seq xs k) (hd:o.dict=none) (hA:A.handled=none)
  (h:∀h' tk,(∀b o,s.heap.get? b=some o->h'.get? b=some o)->Q none { s with heap:=h',toks:=tk }):ay (aD prog w) A (getAttr? (.ref a) "keys") Q E s:=by
 obtain ⟨c,dct,dat,sl⟩:=o
 simp only at hc hdat hd
 subst hc hdat hd
 obtain ⟨hp,g,d,tk,os⟩:=s
 have hT:∀tk',(⟨hp,g,d,tk',os⟩:Shared).TypeIs (.ref a) "list":=λ_=>⟨_,hx,rfl⟩
 have f1:=sub_AttributeError
 have f3:=F.slot_list_getattribute.lookup
 have f4:=F.slot_list_getattribute.bind (.ref a)
 have f5:=am_list_getattr_none
 unfold getAttr? getAttrBy? getAttrBy
 repeat (any_goals (first | assumption | exact hT _ | ((with_reducible show ay _ _ (call (Value.builtin "list.__getattribute__") _ _) _ _ _);refine lY F.slot_list_getattribute (hT _) am_entry_list_getattribute (F.args_list_getattribute_2 _ _) (meets_getattribute_miss_list a xs k sl "keys" _ Uj (by decide +kernel) ⋯) ⟨hx,hA,λh' tk' e hx'=>?_⟩) | wp_step))
 obtain ⟨t',u',he⟩:=hx'.there
 show ay _ _ (nX _ _ _ _ _ _ _) _ _ _
 unfold nX
 repeat (any_goals (first | assumption | wp_step))
 exact h h' tk' hx'.of.keeps
end
theorem zF:entryFor table "dict.update.loop" = some dW.«dict.update.loop»:=entryFor_of_tree (by kernel_rfl)
theorem qL:plainId "dict.update.loop" = true:=by decide +kernel
section
variable {prog:Program}{w:b9}{A:bj}{R:mH->Shared->Prop}{d it l:Addr}{items:Array ag}{qs:List (Key×ag×ag)}
noncomputable def Jn (d it:Addr) (items:Array ag) (qs:List (Key×ag×ag)) (h:Heap):Prop:=∀(i:Nat) (q:Key×ag×ag),qs[i]? = some q->∃b:Addr,items[i]? = some (.ref b)/\b≠d/\b≠it/\h.IsTuple b #[q.2.1,q.2.2]
theorem Jn.keep {h h':Heap}(x:Jn d it items qs h) (k:∀b o,b≠d->b≠it->h.get? b=some o->h'.get? b=some o):Jn d it items qs h':=λi q hq=>by
 obtain ⟨b,h1,h2,h3,o,ho,r⟩:=x i q hq
 exact ⟨b,h1,h2,h3,o,k b o h2 h3 ho,r⟩
theorem Yn (hh:A.handled=none) (hld:l≠d) (hli:l≠it) (hdi:d≠it) (hsz:qs.length<=sizeLine) (hk:∀q∈qs,(jv prog w).is q.1 q.2.1=true) (nd:(qs.map (·.1)).Nodup) (hn:items.size=qs.length) :
  ∀(n i:Nat) (s:Shared),qs.length-i=n->i<=qs.length->s.heap.IsListIter it l i->s.heap.IsList l items->Jn d it items qs s.heap->s.heap.DictOf (jv prog w) d ((qs.take i).map λq=>(q.1,q.2.2)) ->
   (∀h' tk,(∀b o,b≠d->b≠it->s.heap.get? b=some o->h'.get? b=some o)->h'.DictOf (jv prog w) d (qs.map λq=>(q.1,q.2.2))->R (.ok (.ret .none)) { s with heap:=h',toks:=tk }) ->
   cO (aD prog w) A (.builtin "dict.update.loop" ⟨[.ref d,.ref it,bU i,.none],[]⟩) R s:=by
 have hh1:A.in1.handled=none:=by simp [hh]
 intro n
 induction n with
 | zero =>
  intro i s e hi st hl ht hd hR
  obtain rfl:i=qs.length:=∅
  refine eC zF ?_
  rw [cN qL _]
  show ay _ A.in1 (fG (.ref it) >>= _) _ _ s
  refine ae (i0 hh1 st hl (by simp;omega) λh' eb=>?_)
  show ay _ A.in1 (lB d [] >>= _) _ _ _
  rw [aW] at hd
  exact ae (wpAny_pure (wpAny_pure (hR h' s.toks (λb o _ h2 h=>eb b o h2 h) (hd.extBut eb hdi))))
 | succ n ih =>
  intro i s e hi st hl ht hd hR
  have hlt:i<qs.length:=∅
  obtain ⟨⟨k,kv,v⟩,hq⟩:∃q,qs[i]? = some q:=⟨_,aa hlt⟩
  obtain ⟨b,hb,bd,bi,hbt⟩:=ht i _ hq
  refine eC zF ?_
  rw [cN qL _]
  show ay _ A.in1 (fG (.ref it) >>= _) _ _ s
  refine ae (fH st hl hb λh1 st1 sb=>?_)
  have hbt1:h1.IsTuple b #[kv,v]:=by
   obtain ⟨o,ho,r⟩:=hbt
   exact ⟨o,(sb.2 b bi).trans ho,r⟩
  show ay _ A.in1 (dG [aS b] _ >>= _) _ _ _
  obtain ⟨ob,hob,hcb,nb,hdb⟩:=hbt1
  refine ae (bP (ae (rX ?_)))
  unfold m9
  refine ae (iI (T:="tuple") ⟨ob,hob,hcb⟩ ?_)
  rw [if_pos ⋯]
  refine ae (cC hob hdb (wpAny_pure ?_))
  show ay _ A.in1 (dG [kv,v] (dictSet d kv v)) _ _ _
  have hd1:h1.DictOf (jv prog w) d ((qs.take i).map λq=>(q.1,q.2.2)):=hd.sameBut sb hdi
  refine bP (wpAny_dictSet_pairs (s:={ s with heap:=h1 }) (hk _ (ax hq)) hd1 (λh2 hd2 sd=>?_) (by rw [af,aJ];omega))
  refine wpAny_pure ⟨fj qL _,?_⟩
  have keep:∀c o,c≠d->c≠it->s.heap.get? c=some o->h2.get? c=some o:=λc o n1 n2 h=>(sd.2 c n1).trans ((sb.2 c n2).trans h)
  refine ih (i+1) { s with heap:=h2,toks:=s.toks+1 } ∅ ∅ ?_ ?_ (ht.keep keep) ?_ λh3 tk k3 d3=>?_
  ·obtain ⟨o,ho,r⟩:=st1
   exact ⟨o,(sd.2 it hdi.symm).trans ho,r⟩
  ·obtain ⟨o,ho,r⟩:=hl
   exact ⟨o,keep l o hld hli ho,r⟩
  ·have e:sI ((qs.take i).map λq=>(q.1,q.2.2)) k v=(qs.take (i+1)).map λq=>(q.1,q.2.2):=by
    rw [sI,if_neg,bF,hq]
    ·simp
    ·intro z
     obtain ⟨x,hx,ex⟩:=List.any_eq_true.mp z
     obtain ⟨u,hu,rfl⟩:=List.mem_map.mp hx
     have ex:u.1=k:=of_decide_eq_true ex
     obtain ⟨j,hj,ej⟩:=List.mem_iff_getElem.mp hu
     rw [aJ] at hj
     rw [lp] at ej
     obtain ⟨_,eq⟩:=List.getElem?_eq_some_iff.mp hq
     have h1:(qs.map (·.1))[j]'(by rw [af];omega)=(qs.map (·.1))[i]'(by rw [af];exact hlt):=by rw [cK,cK,ej,eq,ex]
     exact absurd h1 (List.pairwise_iff_getElem.mp nd j i _ _ ∅)
   rw [<- e]
   exact hd2
  ·exact hR h3 tk (λc o n1 n2 h=>k3 c o n1 n2 (keep c o n1 n2 h)) d3
end
section
variable {prog:Program}{w:b9}{A:bj}{E:ag->Shared->Prop}{s:Shared}{l:Addr}{ol:Obj}{nl:Nat}{items:Array ag}{qs:List (Key×ag×ag)}
theorem XO {Q:ag->Shared->Prop}(hh:A.handled=none) (ho:s.heap.get? l=some ol) (hc:ol.cls = .type "list") (hdt:ol.data = .seq items nl) (hdc:ol.dict=none) (hsz:qs.length<=sizeLine) (hk:∀q∈qs,(jv prog w).is q.1 q.2.1=true) (nd:(qs.map (·.1)).Nodup) (hn:items.size=qs.length)
  (ht:∀(i:Nat) (q:Key×ag×ag),qs[i]? = some q->∃b:Addr,items[i]? = some (.ref b)/\s.heap.IsTuple b #[q.2.1,q.2.2])
  (h:∀h' tk,(∀b o,s.heap.get? b=some o->h'.get? b=some o)->h'.DictOf (jv prog w) s.heap.objs.size (qs.map λq=>(q.1,q.2.2))->Q (.ref s.heap.objs.size) { s with heap:=h',toks:=tk }) :
  ay (aD prog w) A (call (.type "dict") [.ref l]) Q E s:=by
 refine rY (Q₁:=λobj s₁=>obj = .ref s.heap.objs.size/\s₁={ s with heap:=s.heap.push { cls:=.type "dict",data:=.dict #[] } }) px (mT _) oO (pz _ ⟨rfl,rfl⟩) ?_
 rintro obj s₁ ⟨rfl,rfl⟩
 have hnew:(s.heap.push { cls:=.type "dict",data:=.dict #[] }).DictOf (jv prog w) s.heap.objs.size []:=mm s.heap
 have kp:∀b o,s.heap.get? b=some o->(s.heap.push { cls:=.type "dict",data:=.dict #[] }).get? b=some o:=λb o q=>ai _ q
 refine ⟨hnew.typeIs,nZ _ _,?_⟩
 have lt:∀b o,s.heap.get? b=some o->b≠s.heap.objs.size:=λb o q=>aA (aw q)
 unfold dW.«dict.__init__»
 refine ae ?_
 unfold lC
 refine ae (mw hnew.typeIs ?_)
 show ay _ _ (pure (s.heap.objs.size,[aS l])) _ _ _
 refine wpAny_pure ?_
 show ay _ _ (dQ "dict.__init__" s.heap.objs.size (.ref l) [] .none) _ _ _
 unfold dQ
 refine ae (iI (T:="list") ⟨_,kp _ _ ho,hc⟩ ?_)
 rw [if_pos ⋯]
 generalize hz:s.heap.push { cls:=.type "dict",data:=.dict #[] }=h0 at *
 refine ae (gW (s:={ s with heap:=h0 }) (kp _ _ ho) hc hdt hdc (by simp [hh]) λh1 tk k1=>?_)
 rw [if_pos (show (none:Option ag).isNone=true from rfl)]
 have hl1:h1.IsList l items:=⟨ol,k1 _ _ (kp _ _ ho),hc,nl,hdt⟩
 refine ae (fq ?_)
 refine ae (dw (s:={ s with heap:=h1,toks:=tk }) hl1 (wpAny_pure ⟨fj qL _,?_⟩))
 obtain ⟨od,_,_,hod,_⟩:=id hnew
 have hi1:∀b o,h1.get? b=some o->b≠h1.objs.size:=λb o q=>aA (aw q)
 have kp2:∀b o,s.heap.get? b=some o->(h1.push { cls:=.type "list_iterator",data:=.fields #[.ref l,.int 0 0] }).get? b=some o:=λb o q=>ai _ (k1 _ _ (kp _ _ q))
 refine Yn (d:=s.heap.objs.size) (it:=h1.objs.size) (l:=l) (items:=items) (qs:=qs) (by simp [hh]) (lt _ _ ho) (hi1 _ _ (k1 _ _ (kp _ _ ho))) (hi1 _ _ (k1 _ _ hod)) hsz hk nd hn qs.length 0 _ ∅ (aC _) ⟨_,az _ rfl,rfl,rfl⟩ (hl1.push _) (λi q hq=>?_) ?_ λh' tk' k' d'=>?_
 ·obtain ⟨b,hb,o,hbo,r⟩:=ht i q hq
  exact ⟨b,hb,lt _ _ hbo,hi1 _ _ (k1 _ _ (kp _ _ hbo)),o,kp2 _ _ hbo,r⟩
 ·obtain ⟨o,es,ep,ho',r⟩:=hnew
  exact ⟨o,es,ep,ai _ (k1 _ _ ho'),r⟩
 ·exact ⟨rfl,h h' tk' (λb o q=>k' b o (lt _ _ q) (hi1 _ _ (k1 _ _ (kp _ _ q))) (kp2 _ _ q)) d'⟩
end
theorem yP {α β:Type}(P:Nat->α->β->Prop):∀(l:List α) (n:Nat),(∀(i:Nat) a,l[i]? = some a->∃b,P (n+i) a b)->∃bs:List β,bs.length=l.length/\∀(i:Nat) a b,l[i]? = some a->bs[i]? = some b->P (n+i) a b
 | [],n,_=>⟨[],rfl,λi a b h=>by simp at h⟩
 | x::r,n,h=>by
  obtain ⟨b,hb⟩:=h 0 x rfl
  obtain ⟨bs,hl,hbs⟩:=yP P r (n+1) λi a hi=>by
   have:=h (i+1) a (by simpa using hi)
   rwa [show n+1+i=n+(i+1) by omega]
  refine ⟨b::bs,by simp [hl],λi a b' h1 h2=>?_⟩
  cases i with
  | zero =>
   simp at h1 h2
   subst h1 h2
   exact hb
  | succ i =>
   have:=hbs i a b' (by simpa using h1) (by simpa using h2)
   rwa [show n+(i+1)=n+1+i by omega]
theorem uX {α β:Type}{F:α->β->Prop}:∀{l₁:List α}{l₂:List β},l₁.length=l₂.length->(∀(i:Nat) a b,l₁[i]? = some a->l₂[i]? = some b->F a b)->cG F l₁ l₂
 | [],[],_,_=>.nil
 | [],_::_,h,_=>by simp at h
 | _::_,[],h,_=>by simp at h
 | x::r,y::t,h,k=>.cons (k 0 x y rfl rfl) (uX (by simpa using h) λi a b h1 h2=>k (i+1) a b (by simpa using h1) (by simpa using h2))
theorem Xp {X:Cx}(K:ah) (hca:X.calm=true) (hK:X.K=K:=by rfl):xc X (.type "dict") (λxs H Q=>∃(p:Addr) (out:List V) (ms:List (Int×Int)),xs=[.ref p]/\SqL K H p out/\cG (λv (m:Int×Int)=>∃b,v=V.ref b/\H b=some (.tup [.int m.1,.int m.2])) out ms/\(ms.map (·.1)).Nodup/\ms.length<=1000 /\
  ∀(d:Addr) H',H d=none->H' d=some (.dK (ms.map λm=>(.inl m.1,.int m.2)))->jn H H'->Q (.ref d) H'):=by
 subst hK
 intro pins s σ H xs us Q I r h
 obtain ⟨p,out,ms,rfl,hq,hm,nd,h1000,k⟩:=h
 obtain ⟨u,rfl,ru⟩:=yV r
 cases ru
 obtain ⟨its,rv,⟨ol,nl,ho,hc,hdc,hdt⟩,hz⟩:=I.list hq
 have hlen:out.length=ms.length:=aK hm
 have hits:out.length=its.length:=rv.length
 obtain ⟨qs,hql,hqs⟩:=yP (λi (m:Int×Int) (q:Key×ag×ag)=>∃(b:Addr) (t1 t2:Tok),q=(.inl m.1,.int m.1 t1,.int m.2 t2)/\its[i]? = some (.ref b)/\s.heap.IsTuple b #[.int m.1 t1,.int m.2 t2]) ms 0 λi m hi=>by
  rw [fO]
  have hio:i<out.length:=by rw [hlen];exact (List.getElem?_eq_some_iff.mp hi).1
  obtain ⟨m',hm',b,eb,hb⟩:=Paired.get hm (aa hio)
  rw [hi] at hm'
  cases hm'
  obtain ⟨u,hu,ru⟩:=rv.get (aa hio)
  rw [eb] at ru
  cases (show u=aS b from ru)
  obtain ⟨_,its',r',o,h1,h2,n,h3⟩:=(show qi X.prog X.w H s.heap b (.tup [.int m.1,.int m.2]) from I.hok b _ hb)
  cases r' with
  | cons p1 q1 =>
   cases q1 with
   | cons p2 q2 =>
    cases q2
    obtain ⟨t1,rfl⟩:=p1
    obtain ⟨t2,rfl⟩:=p2
    exact ⟨_,b,t1,t2,rfl,hu,o,h1,h2,n,h3⟩
 have get:∀(i:Nat) (q:Key×ag×ag),qs[i]? = some q->∃(m:Int×Int) (b:Addr) (t1 t2:Tok),ms[i]? = some m/\q=(.inl m.1,.int m.1 t1,.int m.2 t2)/\its[i]? = some (.ref b)/\s.heap.IsTuple b #[.int m.1 t1,.int m.2 t2]:=λi q hi=>by
  have him:i<ms.length:=by rw [<- hql];exact (List.getElem?_eq_some_iff.mp hi).1
  obtain ⟨b,t1,t2,e,h1,h2⟩:=hqs i _ q (aa him) hi
  rw [fO] at h1
  exact ⟨_,b,t1,t2,aa him,e,h1,h2⟩
 have keys:qs.map (·.1)=ms.map λm=>(dX m.1:Key):=by
  refine fS λi=>?_
  rw [av,av]
  cases e:qs[i]? with
  | none =>
   rw [iY] at e
   rw [List.getElem?_eq_none_iff.mpr ∅]
   rfl
  | some q =>
   obtain ⟨m,b,t1,t2,h1,h2,_⟩:=get i q e
   rw [h1,h2]
   rfl
 have ndk:(qs.map (·.1)).Nodup:=by
  rw [keys,show (ms.map λm=>(dX m.1:Key))=(ms.map (·.1)).map dX by rw [bS];rfl]
  exact fT _ (λa b h e=>h (dR e)) nd
 have KVr:KV (ms.map λm=>((.inl m.1,.int m.2):Key×V)) (qs.map λq=>(q.1,q.2.2)):=by
  refine uX (by rw [af,af,hql]) λi a b h1 h2=>?_
  rw [av] at h1 h2
  obtain ⟨q,hq',rfl⟩:=Option.map_eq_some_iff.mp h2
  obtain ⟨m,_,t1,t2,hm',e,_⟩:=get i q hq'
  rw [hm'] at h1
  cases h1
  subst e
  exact ⟨rfl,t2,rfl⟩
 refine XO (qs:=qs) (I.ok.hd hca) ho hc hdt hdc (by rw [hql];exact aF h1000 ⋯) (λq hq'=>?_) ndk (by simp;omega) (λi q hi=>?_) λh' tk keep dd=>?_
 ·obtain ⟨i,hi,e⟩:=List.mem_iff_getElem.mp hq'
  obtain ⟨m,b,t1,t2,h1,h2,_⟩:=get i q (by rw [aa hi,e])
  subst h2
  exact wP (k:=.inl m.1) ⟨t1,rfl⟩
 ·obtain ⟨m,b,t1,t2,h1,h2,h3,h4⟩:=get i q hi
  subst h2
  exact ⟨b,by simpa using h3,h4⟩
 ·have hf:=I.hok.fresh (aq s.heap.objs.size)
  exact ⟨.ref _,upd H s.heap.objs.size (.dK (ms.map λm=>((.inl m.1,.int m.2):Key×V))),I.laid (t':=tk) keep (aq _) (Z1 (by rw [af];exact aF h1000 ⋯) (beq_eq_false_iff_ne.mpr (cj (aA I.big))) KVr dd),rfl,k _ _ hf j5 (jn.new hf)⟩
end L2
end
section
namespace L2
open PySem.W
section
variable {prog:Program}{w:b9}{A:bj}{R:mH->Shared->Prop}{d it l:Addr}{items:Array ag}{qs:List (List Key×Addr×ag)}
noncomputable def Jg (P:Program) (w:b9) (d it:Addr) (items:Array ag) (qs:List (List Key×Addr×ag)) (h:Heap):Prop:=∀(i:Nat) (q:List Key×Addr×ag),qs[i]? = some q->∃b:Addr,items[i]? = some (.ref b)/\b≠d/\b≠it/\h.IsTuple b #[.ref q.2.1,q.2.2]/\q.2.1≠d/\q.2.1≠it/\(d5 (jv P w)).is h q.1 q.2.1
theorem Jg.keep {h h':Heap}(x:Jg prog w d it items qs h) (k:∀b o,b≠d->b≠it->h.get? b=some o->h'.get? b=some o):Jg prog w d it items qs h':=λi q hq=>by
 obtain ⟨b,h1,h2,h3,⟨o,ho,r⟩,h4,h5,o',its,n,ho',r'⟩:=x i q hq
 exact ⟨b,h1,h2,h3,⟨o,k b o h2 h3 ho,r⟩,h4,h5,o',its,n,k _ _ h4 h5 ho',r'⟩
theorem Xz (hh:A.handled=none) (hu:A.units+1<cLine) (hld:l≠d) (hli:l≠it) (hdi:d≠it) (hsz:qs.length<=sizeLine) (nd:(qs.map (·.1)).Nodup) (hn:items.size=qs.length) :
  ∀(n i:Nat) (s:Shared),qs.length-i=n->i<=qs.length->s.heap.IsListIter it l i->s.heap.IsList l items->Jg prog w d it items qs s.heap->s.heap.DictOfH (d5 (jv prog w)) d (qs.take i) ->
   (∀h' tk,(∀b o,b≠d->b≠it->s.heap.get? b=some o->h'.get? b=some o)->h'.DictOfH (d5 (jv prog w)) d qs->R (.ok (.ret .none)) { s with heap:=h',toks:=tk }) ->
   cO (aD prog w) A (.builtin "dict.update.loop" ⟨[.ref d,.ref it,bU i,.none],[]⟩) R s:=by
 have hh1:A.in1.handled=none:=by simp [hh]
 have dkeep:∀{h h':Heap} {j:Nat},h.DictOfH (d5 (jv prog w)) d (qs.take j)->Jg prog w d it items qs h'->(∀o,h.get? d=some o->h'.get? d=some o)->h'.DictOfH (d5 (jv prog w)) d (qs.take j):=λ{h h' j} hd ht hg=>by
  obtain ⟨o,es,ep,h1,h2,h3,h4,h5,h6⟩:=hd
  refine ⟨o,es,ep,hg _ h1,h2,h3,h4,λx hx=>?_,h6⟩
  obtain ⟨m,hm⟩:=List.mem_iff_getElem?.mp (dA hx)
  obtain ⟨b,_,_,_,_,_,_,z⟩:=ht m x hm
  exact z
 intro n
 induction n with
 | zero =>
  intro i s e hi st hl ht hd hR
  obtain rfl:i=qs.length:=∅
  refine eC zF ?_
  rw [cN qL _]
  show ay _ A.in1 (fG (.ref it) >>= _) _ _ s
  refine ae (i0 hh1 st hl (by simp;omega) λh' eb=>?_)
  show ay _ A.in1 (lB d [] >>= _) _ _ _
  have hd':=dkeep hd (ht.keep λb o _ h2 h=>eb b o h2 h) (λo h=>eb d o hdi h)
  rw [aW] at hd'
  exact ae (wpAny_pure (wpAny_pure (hR h' s.toks (λb o _ h2 h=>eb b o h2 h) hd')))
 | succ n ih =>
  intro i s e hi st hl ht hd hR
  have hlt:i<qs.length:=∅
  obtain ⟨⟨k,ka,v⟩,hq⟩:∃q,qs[i]? = some q:=⟨_,aa hlt⟩
  obtain ⟨b,hb,bd,bi,hbt,kd,ki,hk⟩:=ht i _ hq
  refine eC zF ?_
  rw [cN qL _]
  show ay _ A.in1 (fG (.ref it) >>= _) _ _ s
  refine ae (fH st hl hb λh1 st1 sb=>?_)
  have ht1:Jg prog w d it items qs h1:=ht.keep λb o _ h2 h=>(sb.2 b h2).trans h
  obtain ⟨_,_,_,_,hbt1,_,_,hk1⟩:=ht1 i _ hq
  have hbt1:h1.IsTuple b #[.ref ka,v]:=by
   obtain ⟨o,ho,r⟩:=hbt
   exact ⟨o,(sb.2 b bi).trans ho,r⟩
  show ay _ A.in1 (dG [aS b] _ >>= _) _ _ _
  obtain ⟨ob,hob,hcb,nb,hdb⟩:=hbt1
  refine ae (bP (ae (rX ?_)))
  unfold m9
  refine ae (iI (T:="tuple") ⟨ob,hob,hcb⟩ ?_)
  rw [if_pos ⋯]
  refine ae (cC hob hdb (wpAny_pure ?_))
  show ay _ A.in1 (dG [aS ka,v] (dictSet d (.ref ka) v)) _ _ _
  have hd1:=dkeep hd ht1 λo h=>(sb.2 d hdi).trans h
  refine bP (wpAny_dictSet_heap (s:={ s with heap:=h1 }) (ef hu) hk1 hd1 (λh2 hd2 sd=>?_) (by rw [aJ];omega))
  refine wpAny_pure ⟨fj qL _,?_⟩
  have keep:∀c o,c≠d->c≠it->s.heap.get? c=some o->h2.get? c=some o:=λc o n1 n2 h=>(sd.2 c n1).trans ((sb.2 c n2).trans h)
  refine ih (i+1) { s with heap:=h2,toks:=s.toks+(d5 (jv prog w)).draws k } ∅ ∅ ?_ ?_ (ht.keep keep) ?_ λh3 tk k3 d3=>?_
  ·obtain ⟨o,ho,r⟩:=st1
   exact ⟨o,(sd.2 it hdi.symm).trans ho,r⟩
  ·obtain ⟨o,ho,r⟩:=hl
   exact ⟨o,keep l o hld hli ho,r⟩
  ·have e:sJ (qs.take i) k ka v=qs.take (i+1):=by
    rw [sJ,if_neg,bF,hq]
    ·rfl
    ·intro z
     obtain ⟨x,hx⟩:=Option.isSome_iff_exists.mp z
     unfold oM at hx
     obtain ⟨u,hu,rfl⟩:=Option.map_eq_some_iff.mp hx
     have ex:u.1=k:=of_decide_eq_true (List.find?_some (p:=λx:List Key×Addr×ag=>decide (x.1=k)) hu)
     obtain ⟨j,hj,ej⟩:=List.mem_iff_getElem.mp (dm hu)
     rw [aJ] at hj
     rw [lp] at ej
     obtain ⟨_,eq⟩:=List.getElem?_eq_some_iff.mp hq
     have h1:(qs.map (·.1))[j]'(by rw [af];omega)=(qs.map (·.1))[i]'(by rw [af];exact hlt):=by rw [cK,cK,ej,eq,ex]
     exact absurd h1 (List.pairwise_iff_getElem.mp nd j i _ _ ∅)
   rw [<- e]
   exact hd2
  ·exact hR h3 tk (λc o n1 n2 h=>k3 c o n1 n2 (keep c o n1 n2 h)) d3
end
section
variable {prog:Program}{w:b9}{A:bj}{E:ag->Shared->Prop}{s:Shared}{l:Addr}{ol:Obj}{nl:Nat}{items:Array ag}{qs:List (List Key×Addr×ag)}
theorem Qe {Q:ag->Shared->Prop}(hh:A.handled=none) (hu:A.units+64<cLine) (ho:s.heap.get? l=some ol) (hc:ol.cls = .type "list") (hdt:ol.data = .seq items nl) (hdc:ol.dict=none) (hsz:qs.length<=sizeLine) (nd:(qs.map (·.1)).Nodup) (hn:items.size=qs.length)
  (ht:∀(i:Nat) (q:List Key×Addr×ag),qs[i]? = some q->(d5 (jv prog w)).is s.heap q.1 q.2.1/\∃b:Addr,items[i]? = some (.ref b)/\s.heap.IsTuple b #[.ref q.2.1,q.2.2])
  (h:∀h' tk,(∀b o,s.heap.get? b=some o->h'.get? b=some o)->h'.DictOfH (d5 (jv prog w)) s.heap.objs.size qs->Q (.ref s.heap.objs.size) { s with heap:=h',toks:=tk }) :
  ay (aD prog w) A (call (.type "dict") [.ref l]) Q E s:=by
 refine rY (Q₁:=λobj s₁=>obj = .ref s.heap.objs.size/\s₁={ s with heap:=s.heap.push { cls:=.type "dict",data:=.dict #[] } }) px (mT _) oO (pz _ ⟨rfl,rfl⟩) ?_
 rintro obj s₁ ⟨rfl,rfl⟩
 have hnew:(s.heap.push { cls:=.type "dict",data:=.dict #[] }).DictOf (jv prog w) s.heap.objs.size []:=mm s.heap
 have kp:∀b o,s.heap.get? b=some o->(s.heap.push { cls:=.type "dict",data:=.dict #[] }).get? b=some o:=λb o q=>ai _ q
 refine ⟨hnew.typeIs,nZ _ _,?_⟩
 have lt:∀b o,s.heap.get? b=some o->b≠s.heap.objs.size:=λb o q=>aA (aw q)
 unfold dW.«dict.__init__»
 refine ae ?_
 unfold lC
 refine ae (mw hnew.typeIs ?_)
 show ay _ _ (pure (s.heap.objs.size,[aS l])) _ _ _
 refine wpAny_pure ?_
 show ay _ _ (dQ "dict.__init__" s.heap.objs.size (.ref l) [] .none) _ _ _
 unfold dQ
 refine ae (iI (T:="list") ⟨_,kp _ _ ho,hc⟩ ?_)
 rw [if_pos ⋯]
 generalize hz:s.heap.push { cls:=.type "dict",data:=.dict #[] }=h0 at *
 refine ae (gW (s:={ s with heap:=h0 }) (kp _ _ ho) hc hdt hdc (by simp [hh]) λh1 tk k1=>?_)
 rw [if_pos (show (none:Option ag).isNone=true from rfl)]
 have hl1:h1.IsList l items:=⟨ol,k1 _ _ (kp _ _ ho),hc,nl,hdt⟩
 refine ae (fq ?_)
 refine ae (dw (s:={ s with heap:=h1,toks:=tk }) hl1 (wpAny_pure ⟨fj qL _,?_⟩))
 have hod:h0.get? s.heap.objs.size=some { cls:=.type "dict",data:=.dict #[] }:=by rw [<- hz];exact az _ rfl
 have hi1:∀b o,h1.get? b=some o->b≠h1.objs.size:=λb o q=>aA (aw q)
 have kp2:∀b o,s.heap.get? b=some o->(h1.push { cls:=.type "list_iterator",data:=.fields #[.ref l,.int 0 0] }).get? b=some o:=λb o q=>ai _ (k1 _ _ (kp _ _ q))
 refine Xz (d:=s.heap.objs.size) (it:=h1.objs.size) (l:=l) (items:=items) (qs:=qs) (by simp [hh]) (by simp;omega) (lt _ _ ho) (hi1 _ _ (k1 _ _ (kp _ _ ho))) (hi1 _ _ (k1 _ _ hod)) hsz nd hn qs.length 0 _ ∅ (aC _) ⟨_,az _ rfl,rfl,rfl⟩ (hl1.push _) (λi q hq=>?_) ?_ λh' tk' k' d'=>?_
 ·obtain ⟨⟨o2,its,n,hk,rk⟩,b,hb,o,hbo,r⟩:=ht i q hq
  exact ⟨b,hb,lt _ _ hbo,hi1 _ _ (k1 _ _ (kp _ _ hbo)),⟨o,kp2 _ _ hbo,r⟩,lt _ _ hk,hi1 _ _ (k1 _ _ (kp _ _ hk)),o2,its,n,kp2 _ _ hk,rk⟩
 ·exact ⟨_,#[],_,ai _ (k1 _ _ hod),⟨rfl,rfl,rfl⟩,rfl,rfl,(λx hx=>nomatch hx),eS⟩
 ·exact ⟨rfl,h h' tk' (λb o q=>k' b o (lt _ _ q) (hi1 _ _ (k1 _ _ (kp _ _ q))) (kp2 _ _ q)) d'⟩
end
theorem Zl {X:Cx}(K:ah) (hu:X.A.units+64<cLine) (hca:X.calm=true) (hK:X.K=K:=by rfl):xc X (.type "dict") (λxs H Q=>∃(p:Addr) (out:List V) (ms:List (List Key)),xs=[.ref p]/\SqL K H p out/\cG (λv (m:List Key)=>∃b c,v=V.ref b/\H b=some (.tup [.ref c,.bl true])/\H c=some (.tup (m.map kV))) out ms/\ms.Nodup/\ms.length<=1000 /\
  ∀(d:Addr) H',H d=none->H' d=some (.dT (ms.map λm=>(m,.bl true)))->jn H H'->Q (.ref d) H'):=by
 subst hK
 intro pins s σ H xs us Q I r h
 obtain ⟨p,out,ms,rfl,hq,hm,nd,h1000,k⟩:=h
 obtain ⟨u,rfl,ru⟩:=yV r
 cases ru
 obtain ⟨its,rv,⟨ol,nl,ho,hc,hdc,hdt⟩,hz⟩:=I.list hq
 have hlen:out.length=ms.length:=aK hm
 have hits:out.length=its.length:=rv.length
 obtain ⟨qs,hql,hqs⟩:=yP (λi (m:List Key) (q:List Key×Addr×ag)=>∃(b:Addr),q.1=m/\q.2.2 = .bool true/\H q.2.1=some (.tup (m.map kV))/\its[i]? = some (.ref b)/\s.heap.IsTuple b #[.ref q.2.1,q.2.2]) ms 0 λi m hi=>by
  rw [fO]
  have hio:i<out.length:=by rw [hlen];exact (List.getElem?_eq_some_iff.mp hi).1
  obtain ⟨m',hm',b,c,eb,hb,hc⟩:=Paired.get hm (aa hio)
  rw [hi] at hm'
  cases hm'
  obtain ⟨u,hu,ru⟩:=rv.get (aa hio)
  rw [eb] at ru
  cases (show u=aS b from ru)
  obtain ⟨_,its',r',o,h1,h2,n,h3⟩:=(show qi X.prog X.w H s.heap b (.tup [.ref c,.bl true]) from I.hok b _ hb)
  cases r' with
  | cons p1 q1 =>
   cases q1 with
   | cons p2 q2 =>
    cases q2
    cases p1
    cases p2
    exact ⟨(m,c,.bool true),b,rfl,rfl,hc,hu,o,h1,h2,n,h3⟩
 have get:∀(i:Nat) (q:List Key×Addr×ag),qs[i]? = some q->∃(b:Addr),ms[i]? = some q.1/\q.2.2 = .bool true/\H q.2.1=some (.tup (q.1.map kV))/\its[i]? = some (.ref b)/\s.heap.IsTuple b #[.ref q.2.1,q.2.2]:=λi q hi=>by
  have him:i<ms.length:=by rw [<- hql];exact (List.getElem?_eq_some_iff.mp hi).1
  obtain ⟨b,e,h0,h1,h2,h3⟩:=hqs i _ q (aa him) hi
  rw [fO] at h2
  rw [e]
  exact ⟨b,aa him,h0,h1,h2,h3⟩
 have keys:qs.map (·.1)=ms:=by
  refine fS λi=>?_
  rw [av]
  cases e:qs[i]? with
  | none =>
   rw [iY] at e
   rw [List.getElem?_eq_none_iff.mpr ∅]
   rfl
  | some q =>
   obtain ⟨b,h1,_⟩:=get i q e
   rw [h1]
   rfl
 refine Qe (qs:=qs) (I.ok.hd hca) hu ho hc hdt hdc (by rw [hql];exact aF h1000 ⋯) (by rw [keys];exact nd) (by simp;omega) (λi q hi=>?_) λh' tk keep dd=>?_
 ·obtain ⟨b,h1,h2,h3,h4,h5⟩:=get i q hi
  exact ⟨uI I.hok h3,b,by simpa using h4,h5⟩
 ·have hf:=I.hok.fresh (aq s.heap.objs.size)
  have KTr:KT (upd H s.heap.objs.size (.dT (ms.map λm=>(m,.bl true)))) (ms.map λm=>((m,.bl true):List Key×V)) qs:=by
   refine uX (by rw [af,hql]) λi a b h1 h2=>?_
   rw [av] at h1
   obtain ⟨m,hm',rfl⟩:=Option.map_eq_some_iff.mp h1
   obtain ⟨b',e1,e2,e3,_⟩:=get i b h2
   rw [hm'] at e1
   cases e1
   refine ⟨rfl,?_,?_⟩
   ·rw [j6 (j1 e3 hf)]
    exact e3
   ·rw [e2]
    rfl
  obtain ⟨q,es,ep,hq1,h2,h3,h4,_,h5⟩:=dd
  exact ⟨.ref _,upd H s.heap.objs.size (.dT (ms.map λm=>(m,.bl true))),I.laid (t':=tk) keep (aq _) ⟨by rw [af];exact aF h1000 ⋯,beq_eq_false_iff_ne.mpr (cj (aA I.big)),qs,KTr,q,es,ep,hq1,h2,h3,h4,h5⟩,rfl,k _ _ hf j5 (jn.new hf)⟩
end L2
end
section
namespace L2
open PySem.W
noncomputable abbrev Cx.noX (X:Cx):Cx:={ X with xe:=λ_ _=>False }
section
variable {X:Cx}{pins:List (Addr×Obj)}{σ:St}{H:Hp}{s:Shared}
theorem Inv.toNoX (I:Inv X pins σ H s):Inv X.noX pins σ H s:=⟨okP I.ok _ rfl,I.os,I.bare,I.base,I.loc,I.cell,I.free,I.freeC,I.pin,I.hok,I.len⟩
theorem Inv.ofNoX (I:Inv X.noX pins σ H s):Inv X pins σ H s:=⟨okP I.ok _ rfl,I.os,I.bare,I.base,I.loc,I.cell,I.free,I.freeC,I.pin,I.hok,I.len⟩
theorem Xv {st:Stmt}{t:TS}(h:PS X.noX st t):PS X st t:=λpins s σ H D I q=>thn (wpAny_noRaise (h pins s σ H D I.toNoX q)) λ_ _ z=>spOf (λI=>I.ofNoX) z
end
end L2
end
section
namespace K26
open L2
local macro_rules | `(tactic| walk_at "hp")=>`(tactic| first | assumption | exact j5 | (rw [j6 (by first | assumption | (apply cj;assumption))];first | assumption | exact j5))
local macro_rules | `(tactic| walk_at "num")=>`(tactic| first | decide | omega)
local macro_rules | `(tactic| walk_at "rd1")=>`(tactic| first | refine ⟨_,rfl,?_⟩ | refine ⟨_,_,rfl,rfl,?_⟩ | refine fE (show VJ _ _ from iS ⟨by walk_at "num",by walk_at "num"⟩) ?_ | refine fE (show VJ _ _ from aP ⟨by walk_at "num",by walk_at "num"⟩) ?_ | refine fE (show W0 _ _ from ⟨by walk_at "num",by walk_at "num"⟩) ?_ | refine fE (show GE _ _ from ⟨by walk_at "num",by walk_at "num",by walk_at "num"⟩) ?_ | refine fE (show (0:Int)<_ by walk_at "num") ?_ | refine ⟨_,_,_,_,rfl,rfl,SqL.of (by walk_at "hp"),(by rfl),?_⟩ | refine ⟨_,_,_,_,rfl,rfl,SqT.of (by walk_at "hp"),(by rfl),?_⟩ | refine ⟨_,_,_,_,rfl,rfl,(by assumption),(by rfl),?_⟩ | refine ⟨_,_,_,_,rfl,rfl,(by walk_at "hp"),(by rfl),?_⟩ | refine ⟨rfl,?_⟩)
local macro_rules | `(tactic| walk_at "r")=>`(tactic| repeat walk_at "rd1")
local macro_rules | `(tactic| walk_at "s")=>`(tactic| exact ⟨rfl,rfl,rfl,by decide +kernel,rfl,by decide +kernel,by decide +kernel⟩)
local macro_rules | `(tactic| walk_at "k")=>`(tactic| decide +kernel)
local macro_rules | `(())=>`(by omega)
local macro_rules | `(∅)=>`(by decide +kernel)
local macro_rules | `(tactic| walk_at "w")=>`(tactic| (intro _ z;cases z))
local macro_rules | `(tactic| walk_at "z")=>`(tactic| (intro z;cases z))
noncomputable def top (i:Nat):Stmt:=PySem.Challenge.pw_firnfall_k26_years_out_of_sight.main.body.getD i (.Pass ⟨0,0,0,0⟩)
noncomputable abbrev zC:Stmt:=top 16
noncomputable abbrev yw:Stmt:=top 17
noncomputable abbrev vR:Stmt:=top 18
noncomputable abbrev Js:Stmt:=top 19
noncomputable abbrev xb:Stmt:=top 20
noncomputable abbrev vH:Stmt:=top 21
noncomputable abbrev wJ:Stmt:=top 22
noncomputable abbrev xE:Stmt:=top 23
noncomputable abbrev vn:Stmt:=top 24
noncomputable abbrev yt:Stmt:=top 29
noncomputable abbrev yk:Stmt:=top 30
noncomputable abbrev kt:Stmt:=top 31
noncomputable abbrev yu:Stmt:=top 36
noncomputable abbrev zV:Stmt:=top 37
noncomputable abbrev zS:Stmt:=top 38
noncomputable abbrev qN:Stmt:=(zg (top 39) 0)
noncomputable abbrev xC:Stmt:=(zg (top 39) 4)
noncomputable abbrev xm:Stmt:=(zg (top 39) 5)
noncomputable abbrev zP:Stmt:=(zg (top 39) 6)
noncomputable abbrev zO:Stmt:=(zg (top 39) 7)
noncomputable abbrev yT:Stmt:=(zg (top 39) 8)
noncomputable abbrev yv:Stmt:=(zg (top 39) 10)
noncomputable abbrev xR:Stmt:=(zg (top 39) 14)
noncomputable abbrev vK:Stmt:=(zg (top 39) 16)
noncomputable abbrev vm:Stmt:=top 41
noncomputable abbrev vM:Stmt:=top 42
noncomputable abbrev wH:Stmt:=top 43
noncomputable abbrev Z9:Stmt:=top 44
noncomputable abbrev XH:Stmt:=top 46
noncomputable abbrev wN:Stmt:=top 47
noncomputable abbrev VN:Stmt:=top 49
noncomputable abbrev wF:Stmt:=top 50
noncomputable abbrev uC:Stmt:=top 52
noncomputable abbrev vc:Stmt:=top 53
noncomputable abbrev vI:Stmt:=top 54
noncomputable abbrev yN:Stmt:=top 55
noncomputable abbrev xS:Stmt:=top 56
noncomputable abbrev w5:Stmt:=top 57
noncomputable abbrev zU:Stmt:=top 58
noncomputable abbrev zD:Stmt:=top 59
noncomputable abbrev qq:Stmt:=top 60
noncomputable abbrev xj:Stmt:=top 61
noncomputable abbrev xV:Stmt:=top 62
noncomputable abbrev yr:Stmt:=top 63
noncomputable abbrev vT:Stmt:=top 64
noncomputable abbrev xT:Stmt:=top 65
noncomputable abbrev vS:Stmt:=top 66
noncomputable abbrev uE:Stmt:=top 67
noncomputable abbrev vJ:Stmt:=top 68
noncomputable abbrev yC:Stmt:=top 69
noncomputable abbrev zL:Stmt:=top 70
noncomputable abbrev zQ:Stmt:=top 71
noncomputable abbrev vD:Stmt:=top 72
noncomputable abbrev vV:Stmt:=top 73
noncomputable abbrev qO:Stmt:=top 74
noncomputable abbrev yA:Stmt:=top 75
noncomputable abbrev uA:Stmt:=top 76
section
variable {P:Program}{w:b9}{K:ah}{mg:Str->Option ag}{base:Heap}
noncomputable abbrev WS:Pos:=⟨47,28,47,49⟩
noncomputable abbrev qK (H:Hp) (Pt:Addr):Prop:=Tab H Pt WS (("lanes" : Str) ++ ".<locals>." ++ "<lambda>")
noncomputable def Zp:Sp:=λvs H Q _=>∃(i:Nat) (t:Int),vs=[.int i,.int t]/\Q (.bl (xI i t)) H
theorem QM:FnScope ["number","to"] ["number","to"] (j8 vR):=by walk_at "s"
theorem Qw {f:Addr}{fd:FuncData}(F:Fun K "leads_on" "leads_on" vR f fd):FnOk P w K mg base CX0 1 f fd ["number","to"] Zp:=by
 refine F.ok QM (λvs H Q E h=>?_) (λcdv A outer s H vs Q E hr h=>?_)
 ·obtain ⟨i,t,rfl,_⟩:=h
  rfl
 ·obtain ⟨i,t,rfl,k⟩:=h
  refine ⟨_,(j4 (jU (jz y8 (pv 0) j7 (jG _)) (j9 (jk (zB y8 (pv 1) (zX xJ j7) (jG _)))) jw)
   (j9 (jk (zZ qE vw j7 (pv 1) (pv 0))))),?_⟩
  have fin:∀b:Bool,b=xI i t->Q (.bl b) H:=λb e=>by rw [e];exact k
  walk_at "r"
  refine qC (λh1=>?_) (λh1=>?_)
  ·walk_at "r"
   have h1':i=0:=by have:=V.int.inj h1;omega
   refine fin _ ?_
   unfold xI
   rw [if_pos h1']
   exact decide_eq_decide.mpr ⟨λz=>V.int.inj z,λz=>by rw [z]⟩
  ·have h1':i≠0:=λz=>h1 (by rw [z];rfl)
   walk_at "r"
   refine qC (λh2=>?_) (λh2=>?_)
   ·walk_at "r"
    refine fin _ ?_
    unfold xI
    rw [if_neg h1']
    exact decide_eq_decide.mpr ⟨λz=>⟨h2,z⟩,λz=>z.2⟩
   ·refine fin _ ?_
    unfold xI
    rw [if_neg h1',decide_eq_false (λz=>h2 z.1)]
noncomputable def ZM:Sp:=λvs H Q _=>∃(i:Nat) (v:V) (r:Rch),vs=[.int i,v]/\Q3 H v r/\r.2.length<=100/\∀H',jn H H'->Q (.bl (okR i r)) H'
theorem yR:FnScope ["number","reach","to","slope"] ["number","reach"] (j8 yw):=by walk_at "s"
theorem QY {f:Addr}{fd:FuncData}{u0 u1:Tok}(nb:Nb2 mg) (g_MOST_HEIGHTS:mg "MOST_HEIGHTS" = some (.int 12 u0)) (g_GREATEST_HEIGHT:mg "GREATEST_HEIGHT" = some (.int 99 u1)) (c_leads_on:Cal P w K mg base 1 "leads_on" ["number","to"] Zp) (F:Fun K "is_reach" "is_reach" yw f fd):FnOk P w K mg base CX0 2 f fd ["number","reach"] ZM:=by
 refine F.ok yR (λvs H Q E h=>?_) (λcdv A outer s H vs Q E hr h=>?_)
 ·obtain ⟨i,v,r,rfl,_⟩:=h
  rfl
 ·obtain ⟨i,v,⟨t,hs⟩,rfl,⟨p,g,rfl,hp,hg⟩,h100,k⟩:=h
  have h100':hs.length<=100:=h100
  have fin:∀(b:Bool) (H':Hp),jn H H'->b=okR i (t,hs)->Q (.bl b) H':=λb H' sm e=>by rw [e];exact k H' sm
  refine ⟨_,(j4 (xG (pv 1) (qv (n:=2) K rfl (jm (jb (i:=2) yR.nd rfl (aP rfl)) (jm (jb (i:=3) yR.nd rfl (aP rfl)) qw))))
   (j4 (jU (PW.pt (W1 (xo (zT (je c_leads_on (hr.mono ⋯) rfl (j0 (pv 0) (j0 (pv 2) j2))))) (YX (xo (xU qE qE j7 (jf (jh K) rfl nb.b_len aT (j0 (pv 3) j2)) (xl (v:=V.int 12) rfl g_MOST_HEIGHTS ⟨_,rfl⟩)))))) (j9 (jk wV)) jw)
   (j9 (jk (jf (y9 K rfl) rfl nb.b_all oP (j0 (jY (osc:=(j8 yw)) (ON:=["number","reach","to","slope"]) (N:=["height"]) (own:=1) (caps:=[]) ⟨rfl,∅,∅,∅,rfl,∅⟩ rfl rfl rfl (uu K (pv 3)) (λ_ _ _ _ _=>(jb (i:=0) (show bo (["height"]:List Str) by decide +kernel) rfl (aP rfl))) (λ_ _ _ _ _=>jK) (λ_ _ _ _ _=>(zZ qE qE j7 (pv 0) (xl (v:=V.int 99) rfl g_GREATEST_HEIGHT ⟨_,rfl⟩)))) j2)))))),?_⟩
  walk_at "r"
  refine ⟨p,_,rfl,SqT.of hp,rfl,?_⟩
  refine ⟨_,_,rfl,_,_,rfl,rfl,?_⟩
  walk_at "r"
  refine ⟨i,t,rfl,?_⟩
  walk_at "r"
  cases hl:xI i t with
  | false =>
   refine vt ?_
   walk_at "r"
   exact fin _ H (jn.refl H) (by unfold okR;rw [hl];rfl)
  | true =>
   refine kO ?_
   walk_at "r"
   refine ⟨_,_,rfl,.inr (SqT.of hg),?_⟩
   walk_at "r"
   rw [af]
   refine qC (λh1=>?_) (λh1=>?_)
   ·walk_at "r"
    refine y3 (λh2=>?_) (λh2=>?_)
    ·walk_at "r"
     exact fin _ H (jn.refl H) (by unfold okR;rw [hl,decide_eq_false (λz=>h2 z.2)];rfl)
    ·walk_at "r"
     refine ⟨⟨_,SqT.of hg⟩,λacc hacc=>?_⟩
     refine QZ (K:=K) (a:=g) (xs:=hs.map V.int) (acc:=acc) (λj σ H2=>∃x:Option V,σ=[x]/\H2 acc=some (.lst (((hs.take j).map λx=>decide (0<=x/\x<=99)).map V.bl))/\Ext acc H H2) ?_ ?_ ?_ ?_
     ·exact ⟨none,rfl,j5,Ext.put⟩
     ·rintro j σ H2 hj ⟨x,rfl,h3,e3⟩
      exact SqT.of (e3 _ _ hg (j1 hg hacc))
     ·rintro j v σ H2 hv ⟨x,rfl,h3,e3⟩
      obtain ⟨z,rfl⟩:=yM hv
      have hz:hs[j]? = some z:=by
       rw [av] at hv
       cases e:hs[j]? with
       | none=>rw [e] at hv;cases hv
       | some y=>rw [e] at hv;cases hv;rfl
      have hj:j<hs.length:=(List.getElem?_eq_some_iff.mp hz).1
      have done:∀b:Bool,b=decide (0<=z/\z<=99)->∃ys,H2 acc=some (.lst ys)/\ys.length<sizeLine/\∃x:Option V,[some (V.int z)]=[x]/\upd H2 acc (.lst (ys++[V.bl b])) acc=some (.lst (((hs.take (j+1)).map λx=>decide (0<=x/\x<=99)).map V.bl))/\Ext acc H (upd H2 acc (.lst (ys++[V.bl b]))):=λb e=>by
       refine ⟨_,h3,by rw [af,af,aJ];exact jg (),_,rfl,?_,e3.trans Ext.put⟩
       rw [j5,qH (λx=>decide (0<=x/\x<=99)) hs j z hz,aB,e]
       rfl
      walk_at "r"
      refine qC (λh4=>?_) (λh4=>?_)
      ·walk_at "r"
       exact done _ (decide_eq_decide.mpr ⟨λy=>⟨h4,y⟩,λy=>y.2⟩)
      ·exact done _ (decide_eq_false λy=>h4 y.1).symm
     ·rintro σ H2 ⟨x,rfl,h3,e3⟩
      rw [af,aW] at h3
      refine ⟨acc,_,rfl,SqL.of h3,?_⟩
      refine fin _ H2 (λc o hc=>e3 c o hc (j1 hc hacc)) ?_
      unfold okR
      rw [hl,decide_eq_true (show (1<=(hs.length:Int)/\(hs.length:Int)<=12) from ⟨h1,h2⟩),fP]
      rfl
   ·refine ⟨_,rfl,vt ?_⟩
    walk_at "r"
    exact fin _ H (jn.refl H) (by unfold okR;rw [hl,decide_eq_false (λz=>h1 z.1)];rfl)
noncomputable def J7 (K:ah):Sp:=λvs H Q _=>∃(p:Addr) (xs:List V) (rs:List Rch) (h:Nat),vs=[.ref p,.int h]/\H p=some (.lst xs)/\qc H xs rs/\xq rs/\h<rs.length/\rs.length<=100/\∀t H',H t=none->H' t=some (.tup ((qA rs h).map V.int))->jn H H'->Q (.ref t) H'
theorem zH:FnScope ["reaches","head","way","reach"] ["reaches","head"] (j8 vH):=by walk_at "s"
theorem Qo {f:Addr}{fd:FuncData}(nb:Nb2 mg) (F:Fun K "way_down" "way_down" vH f fd):FnOk P w K mg base CX0 1 f fd ["reaches","head"] (J7 K):=by
 refine F.ok zH (λvs H Q E h=>?_) (λcdv A outer s H vs Q E hr h=>?_)
 ·obtain ⟨p,xs,rs,h,rfl,_⟩:=h
  rfl
 ·obtain ⟨p,xs,rs,h,rfl,hp,hrw,L,hh,h100,k⟩:=h
  refine ⟨_,(j4 (jt 2 zH.nd (jL j2))
   (j4 (jt 3 zH.nd (pv 1))
   (j4 (Qx aV (jz V7 (pv 3) j7 (jG _)) (j4 (jM (xu K aX aZ b7 jZ (pv 2) (j0 (pv 3) j2)))
   (j9 (jt 3 zH.nd (jo (qo K) (jo (jd K) (pv 0) (pv 3) (λ_ _=>rfl)) j7 (λ_ _=>rfl))))))
   (j9 (jk (qI (zt K) rfl nb.b_tuple cQ (j0 (pv 2) j2))))))),?_⟩
  walk_at "r"
  refine ⟨aC _,λwy H1 hwy hwy1 s1=>?_⟩
  walk_at "r"
  have hlen:=hrw.length
  refine Qd (λσ H2=>∃(pre:List Int) (r:Int),σ=[some (.ref p),some (.int h),some (.ref wy),some (.int r)]/\H2 wy=some (.lst (pre.map V.int))/\Ext wy H1 H2 /\ -1<=r/\r<rs.length/\pre.length+(r+1).toNat<=100/\pre++(if r<0 then [] else qA rs r.toNat)=qA rs h) (λσ H2=>match σ with | [_,_,_,some (.int r)]=>(r+1).toNat | _=>0) ?_ ?_ ?_
  ·refine ⟨[],h,rfl,hwy1,Ext.refl,(),(),by simp;omega,?_⟩
   rw [if_neg ()]
   rfl
  ·rintro σ H2 ⟨pre,r,rfl,hw2,e2,r0,r1,rl,heq⟩
   walk_at "r"
   refine qC (λhr0=>?_) (λhr0=>?_)
   ·have hp2:H2 p=some (.lst xs):=e2 _ _ (s1 _ _ hp) (j1 hp hwy)
    have hrw2:qc H2 xs rs:=hrw.keep ((jj.same s1).trans (jj.lst e2 hwy1))
    have hi:r.toNat<rs.length:=()
    obtain ⟨v,hv,q,g,rfl,hq,hg⟩:=hrw2.at (aa hi)
    have ht:=L.lt hi
    have ht2:=(kU (L _ hi)).2.1
    have et:=JO (aa hi)
    rw [et] at ht ht2
    generalize (rs[r.toNat]'hi).1=tt at ht ht2 et hq
    walk_at "r"
    refine ⟨.inl ⟨rfl,_,SqL.of hw2⟩,?_⟩
    walk_at "r"
    refine ⟨wy,_,_,rfl,rfl,hw2,by rw [af];exact jg (),?_⟩
    have hne:q≠wy:=ji hq hw2 (by walk_at "z")
    have hp3:upd H2 wy (.lst (pre.map V.int++[.int r])) p=some (.lst xs):=by rw [j6 (j1 hp hwy)];exact hp2
    have hq3:upd H2 wy (.lst (pre.map V.int++[.int r])) q=some (.tup [.int tt,.ref g]):=by rw [j6 hne];exact hq
    walk_at "r"
    refine ⟨_,_,_,_,rfl,rfl,SqL.of hp3,qS hr0 hv,?_⟩
    refine ⟨_,_,_,_,rfl,rfl,SqT.of hq3,rfl,?_⟩
    refine ⟨⟨pre++[r],tt,rfl,?_,e2.trans Ext.put,(),(),?_,?_⟩,?_⟩
    ·rw [j5,aB];rfl
    ·rw [ak,bg];omega
    ·rw [<- heq,if_neg (show ¬r<0 by omega),zI L hi,et,cD]
     congr 1
     show r::_=_
     congr 1
     omega
    ·show (tt+1).toNat<(r+1).toNat
     omega
   ·rw [if_pos (),aM] at heq
    subst heq
    walk_at "r"
    refine ⟨wy,_,rfl,SqL.of hw2,λt H3 ht ht3 s3=>?_⟩
    exact k t H3 (s1.free (e2.free ht (λz=>by rw [z,hw2] at ht;cases ht))) ht3 (λc o hc=>s3 _ _ (e2 _ _ (s1 _ _ hc) (j1 hc hwy)))
  ·intro σ H2 Q1 Q2 hQ h
   obtain ⟨v,e,r⟩:=h
   obtain ⟨i,j,e1,e2,kk,e3,r⟩:=r
   exact ⟨v,e,i,j,e1,e2,kk,e3,hQ _ _ r⟩
noncomputable def ZH (K:ah):Sp:=λvs H Q _=>∃(p a:Addr) (xs:List V) (rs:List Rch) (way:List Int),vs=[.ref p,.ref a]/\H p=some (.lst xs)/\qc H xs rs/\(∀r∈rs,r.2.length<=100)/\H a=some (.tup (way.map V.int))/\(∀r∈way,0<=r/\r<rs.length)/\way.length<=100/\∀H',jn H H'->Q (.int (jB rs way)) H'
theorem wq:FnScope ["reaches","way"] ["reaches","way"] (j8 xE):=by walk_at "s"
theorem wv {f:Addr}{fd:FuncData}(nb:Nb2 mg) (F:Fun K "count_places" "count_places" xE f fd):FnOk P w K mg base CX0 1 f fd ["reaches","way"] (ZH K):=by
 refine F.ok wq (λvs H Q E h=>?_) (λcdv A outer s H vs Q E hr h=>?_)
 ·obtain ⟨p,a,xs,rs,way,rfl,_⟩:=h
  rfl
 ·obtain ⟨p,a,xs,rs,way,rfl,hp,hrw,h100,ha,hin,hwl,k⟩:=h
  have hlen:=hrw.length
  refine ⟨_,(j9 (jk (jf (km K rfl) rfl nb.b_sum sY (j0 (jY (osc:=(j8 xE)) (ON:=["reaches","way"]) (N:=["reach","reaches"]) (own:=1) (caps:=[0]) ⟨rfl,∅,∅,∅,rfl,∅⟩ rfl rfl rfl (uu K (pv 1)) (λ_ _ _ _ _=>(jb (i:=0) (show bo (["reach","reaches"]:List Str) by decide +kernel) rfl (aP rfl))) (λ_ _ _ _ _=>jK) (λ_ _ _ _ _=>(jf (jh K) rfl nb.b_len aT (j0 (jo (qo K) (jo (jd K) (pv 1) (pv 0) (λ_ _=>rfl)) j7 (λ_ _=>rfl)) j2)))) j2)))),?_⟩
  walk_at "r"
  refine ⟨⟨_,SqT.of ha⟩,λacc hacc=>?_⟩
  refine QZ (K:=K) (a:=a) (xs:=way.map V.int) (acc:=acc) (λj σ H2=>∃x:Option V,σ=[x,some (.ref p)]/\H2 acc=some (.lst (((way.take j).map λr=>((zN rs r.toNat).length:Int)).map V.int))/\Ext acc H H2) ?_ ?_ ?_ ?_
  ·exact ⟨none,rfl,j5,Ext.put⟩
  ·rintro j σ H2 hj ⟨x,rfl,h3,e3⟩
   exact SqT.of (e3 _ _ ha (j1 ha hacc))
  ·rintro j v σ H2 hv ⟨x,rfl,h3,e3⟩
   obtain ⟨r,rfl⟩:=yM hv
   have hz:way[j]? = some r:=by
    rw [av] at hv
    cases e:way[j]? with
    | none=>rw [e] at hv;cases hv
    | some y=>rw [e] at hv;cases hv;rfl
   have hj:j<way.length:=(List.getElem?_eq_some_iff.mp hz).1
   have hr:=hin r (ax hz)
   have hi:r.toNat<rs.length:=()
   obtain ⟨v,hv',q,g,rfl,hq,hg⟩:=(hrw.keep (jj.new e3 hacc)).at (aa hi)
   walk_at "r"
   refine ⟨_,_,_,_,rfl,rfl,SqL.of (e3 _ _ hp (j1 hp hacc)),qS hr.1 hv',?_⟩
   refine ⟨_,_,_,_,rfl,rfl,SqT.of hq,rfl,?_⟩
   refine ⟨_,_,rfl,.inr (SqT.of hg),?_⟩
   refine ⟨_,h3,by rw [af,af,aJ];exact jg (),_,rfl,?_,e3.trans Ext.put⟩
   rw [j5,qH (λr:Int=>((zN rs r.toNat).length:Int)) way j r hz,aB,Jz (aa hi),af]
   rfl
  ·rintro σ H2 ⟨x,rfl,h3,e3⟩
   rw [af,aW] at h3
   refine ⟨acc,_,rfl,SqL.of h3,by rw [af];omega,λn hn=>?_,?_⟩
   ·obtain ⟨r,hr,rfl⟩:=List.mem_map.mp hn
    have hb:=hin r hr
    have hi:r.toNat<rs.length:=()
    have:=h100 _ (bY hi)
    rw [Jz (aa hi)]
    omega
   ·exact k H2 λc o hc=>e3 c o hc (j1 hc hacc)
noncomputable def ud (K:ah) (Pt:Addr):Sp:=λvs H Q _=>∃(p:Addr) (xs:List V) (rs:List Rch),vs=[.ref p]/\H p=some (.lst xs)/\qc H xs rs/\xq rs/\rs.length<=60/\qK H Pt/\∀l H' out ws,H l=none->H' l=some (.lst out)->yb H' out ws->qf rs ws->Ext Pt H H'->qK H' Pt->Q (.ref l) H'
theorem kY:FnScope ["reaches","entered","ways"] ["reaches"] (j8 xb):=by walk_at "s"
theorem QO {α:Type}(l:List α) (d:α):((aG l.length).map λi=>l.getD i d)=l:=by
 apply lN
 ·simp
 ·intro i h1 h2
  simp [h2]
theorem Ji {H:Hp}{vs:List V}{ws:List (List Int)}(h:yb H vs ws):∀ix:List Nat,(∀i∈ix,i<vs.length)->yb H (ix.map λi=>vs.getD i V.non) (ix.map λi=>ws.getD i [])
 | [],_=>.nil
 | i::ix,hb=>by
  refine .cons ?_ (Ji h ix λj hj=>hb j (aE _ hj))
  have hi:=hb i aI
  obtain ⟨y,e2,a,e3,e4⟩:=Paired.get h (aa hi)
  refine ⟨a,?_,?_⟩
  ·show vs.getD i V.non=V.ref a
   rw [ao,aa hi];exact e3
  ·show H a=some (.tup ((ws.getD i []).map V.int))
   rw [ao,e2];exact e4
theorem JF {rs:List Rch}{roads:List (List Int)}{vs out:List V}{H H':Hp}(hr:roads=(js rs).map (qA rs)) (hv:yb H vs roads) (k:jj H H') (hs:ui ww (λi=>(roads.getD i []).reverse) vs out):∃ws,yb H' out ws/\qf rs ws:=by
 obtain ⟨ix,hp,e,hpw⟩:=hs
 have hb:∀i∈ix,i<vs.length:=λi hi=>by have:=hp.mem_iff.mp hi;simpa using this
 refine ⟨ix.map λi=>roads.getD i [],by rw [e];exact (Ji hv ix hb).keep k,?_,?_⟩
 ·have:=hp.map λi=>roads.getD i []
  rw [hv.length,QO] at this
  rw [<- hr]
  exact this
 ·rw [bS]
  exact hpw
theorem Ve {f c Pt:Addr}{oc:ag}{od an:Option Addr}{osl:Array (Option ag)}{kV doc pm ct:ag}(nb:Nb2 mg) (c_way_down:Cal P w K mg base 1 "way_down" ["reaches","head"] (J7 K)) (CH:PySem.W.CodeHd base c Pt) (hBm:Bm mg base)
  (l:K.lookup f=some ⟨oc,od,.func (bD "lanes" "lanes" (qg xb) (jT xb) (j8 xb) .none kV doc pm an (.ref c) ct),osl⟩) (cd:cx K (.ref c) "lanes" = true) :
  FnOk P w K mg base CX0 5 f (bD "lanes" "lanes" (qg xb) (jT xb) (j8 xb) .none kV doc pm an (.ref c) ct) ["reaches"] (ud K Pt):=by
 refine Fun.okC l cd kY (λvs H Q E h=>?_) (λA outer s H vs Q E hr h=>?_)
 ·obtain ⟨p,xs,rs,rfl,_⟩:=h
  rfl
 ·obtain ⟨p,xs,rs,rfl,hp,hrw,L,h60,hT,k⟩:=h
  have hlen:=hrw.length
  refine ⟨_,(j4 (yW (i:=1) kY.nd rfl (iS rfl) (jY (osc:=(j8 xb)) (ON:=["reaches","entered","ways"]) (N:=["to","slope"]) (own:=2) (caps:=[]) ⟨rfl,∅,∅,∅,rfl,∅⟩ rfl rfl rfl (jP K (pv 0)) (λ_ _ _ _ _=>(qv (n:=2) K rfl (jm (jb (i:=0) (show bo (["to","slope"]:List Str) by decide +kernel) rfl (aP rfl)) (jm (jb (i:=1) (show bo (["to","slope"]:List Str) by decide +kernel) rfl (aP rfl)) qw)))) (λ_ _ _ _ _=>jK) (λ_ _ _ _ _=>(pv 0))))
   (j4 (ZQ (j:=2) (osc:=(j8 xb)) (ON:=["reaches","entered","ways"]) (N:=["head","reaches","entered"]) (own:=1) (caps:=[0,1]) ⟨rfl,∅,∅,∅,rfl,∅⟩ kY.nd rfl (aP rfl) rfl rfl rfl (qh rfl nb.b_range (j0 (jf (jh K) rfl nb.b_len aT (j0 (pv 0) j2)) j2)) (λ_ _ _ _ _=>(jb (i:=0) (show bo (["head","reaches","entered"]:List Str) by decide +kernel) rfl (aP rfl))) (λ_ _ _ _ _=>(yQ (jz (xN K) (pv 0) (pv 2) (by with_unfolding_all rfl)))) (λ_ _ _ _ _=>(je c_way_down (hr.mono ⋯) rfl (j0 (pv 1) (j0 (pv 0) j2)))))
   (j9 (jk (XX (N:=["way"]) (x:="way") (k:=0) rfl nb.b_sorted (j0 (pv 2) j2) rfl CH hBm (hr.mono ⋯) (by walk_at "s") (λ_ _ _ _=>rfl) (λ_ _ _ _=>(UN K (pv 0)))))))),?_⟩
  walk_at "r"
  refine ⟨⟨_,SqL.of hp⟩,λen hen=>?_⟩
  refine qp (K:=K) (a:=p) (xs:=xs) (acc:=en) (λj σ H2=>∃x y:Option V,σ=[x,y]/\H2 en=some (.lst (((rs.take j).map (·.1)).map V.int))/\Ext en H H2) ?_ ?_ ?_ ?_
  ·exact ⟨none,none,rfl,j5,Ext.put⟩
  ·rintro j σ H2 hj ⟨x,y,rfl,h3,e3⟩
   exact SqL.of (e3 _ _ hp (j1 hp hen))
  ·rintro j v σ H2 hv ⟨x,y,rfl,h3,e3⟩
   obtain ⟨r,hr,q,g,rfl,hq,hg⟩:=(hrw.keep (jj.new e3 hen)).get hv
   have hj:j<rs.length:=(List.getElem?_eq_some_iff.mp hr).1
   walk_at "r"
   refine ⟨q,_,rfl,SqT.of hq,rfl,?_⟩
   refine ⟨_,_,rfl,_,_,rfl,rfl,?_⟩
   walk_at "r"
   refine ⟨_,h3,by rw [af,af,aJ];exact jg (),_,_,rfl,?_,e3.trans Ext.put⟩
   rw [j5,qH (λr:Rch=>r.1) rs j r hr,aB]
   rfl
  ·rintro σ H2 ⟨x,y,rfl,h3,e3⟩
   rw [hlen,aW] at h3
   have hp2:=e3 _ _ hp (j1 hp hen)
   have hrw2:qc H2 xs rs:=hrw.keep (jj.new e3 hen)
   have hT2:qK H2 Pt:=hT.extN hen e3
   walk_at "r"
   refine ⟨_,_,rfl,.inl (SqL.of hp2),?_⟩
   refine ⟨_,rfl,(),(),λwy hwy=>?_⟩
   rw [hlen]
   refine xn (lo:=0) (n:=((rs.length:Nat):Int).toNat) (acc:=wy) (λj σ H3=>∃(x:Option V) (vs:List V),σ=[x,some (.ref p),some (.ref en)]/\H3 wy=some (.lst vs)/\yb H3 vs (((aG j).filter (jQ rs)).map (qA rs))/\Ext wy H2 H3/\vs.length<=j) ?_ ?_ ?_
   ·exact ⟨none,[],rfl,j5,.nil,Ext.put,aq _⟩
   ·rintro j σ H3 hj ⟨x,vs,rfl,h4,w4,e4,l4⟩
    have hj':j<rs.length:=()
    have hen4:=e4 _ _ h3 (j1 h3 hwy)
    have hp4:=e4 _ _ hp2 (j1 hp2 hwy)
    have hrw4:qc H3 xs rs:=hrw2.keep (jj.new e4 hwy)
    have er:(aG (j+1)).filter (jQ rs)=(aG j).filter (jQ rs)++(if jQ rs j=true then [j] else []):=by
     rw [ck,bK]
     congr 1
     by_cases z:jQ rs j=true
     ·rw [if_pos z];simp [z]
     ·rw [if_neg z];simp [z]
    walk_at "r"
    refine ⟨en,_,rfl,.inl (SqL.of hen4),rfl,ya _,?_⟩
    walk_at "r"
    rw [eA,yS]
    refine y3 (λhin=>?_) (λhin=>?_)
    ·have hb:jQ rs j=true:=by unfold jQ;rw [decide_eq_false (show ¬(j:Int)∈tos rs from hin)];rfl
     walk_at "r"
     refine ⟨p,xs,rs,j,rfl,hp4,hrw4,L,hj',(),λt H5 ht ht5 s5=>?_⟩
     have nt:t≠wy:=λz=>by rw [z,h4] at ht;cases ht
     have h5:=s5 _ _ h4
     refine ⟨vs,h5,jg (),_,vs++[.ref t],rfl,j5,?_,λc o hc n=>by rw [j6 n];exact s5 _ _ (e4 c o hc n),by rw [ak,bg];omega⟩
     rw [er,if_pos hb,aB]
     exact yb.keep (jj.lst Ext.put h5) (bL (w4.keep (jj.same s5)) ⟨t,rfl,ht5⟩)
    ·have hb:¬jQ rs j=true:=by unfold jQ;rw [decide_eq_true (show (j:Int)∈tos rs from hin)];exact au
     refine ⟨_,vs,rfl,h4,?_,e4,()⟩
     rw [er,if_neg hb,aM]
     exact w4
   ·rintro σ H3 ⟨x,vs,rfl,h4,w4,e4,l4⟩
    have hT3:qK H3 Pt:=hT2.extN hwy e4
    obtain ⟨ps,hPt⟩:=hT3.ne
    rw [bE] at w4 l4
    have hvl:=w4.length
    walk_at "r"
    refine ⟨hT3,wy,vs,λi=>((((js rs).map (qA rs)).getD i []).reverse),rfl,SqL.of h4,(),λi hi z=>?_,λH5 X5 i v hv=>?_,λlo H5 out hlo hlo5 X5 T5 hs=>?_⟩
    ·have hi2:i<(js rs).length:=by
      rw [af] at hvl
      exact Nat.lt_of_lt_of_eq hi hvl
     have z2:((js rs).map (qA rs)).getD i []=[]:=List.reverse_eq_nil_iff.mp z
     rw [ao,av,aa hi2] at z2
     exact Us _ z2
    ·obtain ⟨y,e2,a,rfl,ha⟩:=Paired.get w4 hv
     have ha5:=jj.tbl X5 hPt _ _ ha
     walk_at "r"
     refine ⟨a,_,rfl,SqT.of ha5,λq H6 hq hq6 s6=>⟨s6,q,rfl,?_⟩⟩
     show H6 q=some (.tup (((((js rs).map (qA rs)).getD i []).reverse).map V.int))
     rw [hq6,ao,show ((js rs).map (qA rs))[i]? = some y from e2,<- pA]
     rfl
    ·obtain ⟨ws,hw,hrd⟩:=JF (rs:=rs) rfl w4 (jj.tbl X5 hPt) hs
     have wyP:wy≠Pt:=ji h4 hPt (by walk_at "z")
     have enP:en≠Pt:=ji (e4 _ _ h3 (j1 h3 hwy)) hPt (by walk_at "z")
     have hlo3:H lo=none:=by
      have a1:H2 lo=none:=e4.free hlo (λz=>by rw [z,h4] at hlo;cases hlo)
      exact e3.free a1 (λz=>by rw [z,h3] at a1;cases a1)
     exact k lo H5 out ws hlo3 hlo5 hw hrd (λc o hc n=>X5 _ _ (e4 _ _ (e3 _ _ hc (j1 hc hen)) (j1 (e3 _ _ hc (j1 hc hen)) hwy)) n) T5
noncomputable def V4 (K:ah):Sp:=λvs H Q _=>∃(p wl:Addr) (xs out:List V) (rs:List Rch) (ws:List (List Int)),vs=[.ref p,.ref wl]/\H p=some (.lst xs)/\qc H xs rs/\(∀r∈rs,r.2.length<=100)/\H wl=some (.lst out)/\yb H out ws/\qf rs ws/\xq rs/\rs.length<=60 /\
 ∀H',jn H H'->Q (.bl (decide (((js rs).length:Int)<=6) && (js rs).all λh=>decide (jB rs (qA rs h)<=30))) H'
theorem Ug:FnScope ["reaches","ways"] ["reaches","ways"] (j8 Js):=by walk_at "s"
theorem UC {f:Addr}{fd:FuncData}{u0 u1:Tok}(nb:Nb2 mg) (g_MOST_LANES:mg "MOST_LANES" = some (.int 6 u0)) (g_LONGEST_LANE:mg "LONGEST_LANE" = some (.int 30 u1)) (c_count_places:Cal P w K mg base 1 "count_places" ["reaches","way"] (ZH K)) (F:Fun K "fits" "fits" Js f fd):FnOk P w K mg base CX0 2 f fd ["reaches","ways"] (V4 K):=by
 refine F.ok Ug (λvs H Q E h=>?_) (λcdv A outer s H vs Q E hr h=>?_)
 ·obtain ⟨p,wl,xs,out,rs,ws,rfl,_⟩:=h
  rfl
 ·obtain ⟨p,wl,xs,out,rs,ws,rfl,hp,hrw,h100,hw,hws,hrd,L,h60,k⟩:=h
  have hwl:=hws.length
  have hrl:=hrd.length
  have hhl:(js rs).length<=60:=by
   unfold js
   exact aF (bN _ _) (by rw [br];exact h60)
  have fin:∀(b:Bool) (H':Hp),jn H H'->b=(decide (((js rs).length:Int)<=6) && (js rs).all λh=>decide (jB rs (qA rs h)<=30))->Q (.bl b) H':=λb H' sm e=>by rw [e];exact k H' sm
  refine ⟨_,(j9 (jk (yp (zB qE (jf (jh K) rfl nb.b_len aT (j0 (pv 1) j2)) (xl (v:=V.int 6) rfl g_MOST_LANES ⟨_,rfl⟩) (jG _)) (yY (jf (y9 K rfl) rfl nb.b_all oP (j0 (jY (osc:=(j8 Js)) (ON:=["reaches","ways"]) (N:=["way","reaches"]) (own:=1) (caps:=[0]) ⟨rfl,∅,∅,∅,rfl,∅⟩ rfl rfl rfl (jP K (pv 1)) (λ_ _ _ _ _=>(jb (i:=0) (show bo (["way","reaches"]:List Str) by decide +kernel) rfl (aP rfl))) (λ_ _ _ _ _=>jK) (λ_ _ _ _ _=>(zB qE (je c_count_places (hr.mono ⋯) rfl (j0 (pv 1) (j0 (pv 0) j2))) (xl (v:=V.int 30) rfl g_LONGEST_LANE ⟨_,rfl⟩) (jG _)))) j2)))))),?_⟩
  walk_at "r"
  refine ⟨_,_,rfl,.inl (SqL.of hw),?_⟩
  walk_at "r"
  refine qC (λh1=>?_) (λh1=>?_)
  ·walk_at "r"
   refine ⟨⟨_,SqL.of hw⟩,λacc hacc=>?_⟩
   refine qp (K:=K) (a:=wl) (xs:=out) (acc:=acc) (λj σ H2=>∃x:Option V,σ=[x,some (.ref p)]/\H2 acc=some (.lst (((ws.take j).map λw=>decide (jB rs w<=30)).map V.bl))/\Ext acc H H2) ?_ ?_ ?_ ?_
   ·exact ⟨none,rfl,j5,Ext.put⟩
   ·rintro j σ H2 hj ⟨x,rfl,h3,e3⟩
    exact SqL.of (e3 _ _ hw (j1 hw hacc))
   ·rintro j v σ H2 hv ⟨x,rfl,h3,e3⟩
    obtain ⟨wy,ew,a,rfl,ha⟩:=Paired.get (hws.keep (jj.new e3 hacc)) hv
    have hj:j<ws.length:=(List.getElem?_eq_some_iff.mp ew).1
    obtain ⟨hd,hhd,ewy⟩:=hrd.mem (ax ew)
    have hdl:=xx hhd
    have hwlen:wy.length<=100:=by rw [ewy];have:=ut L hd hdl;omega
    walk_at "r"
    refine ⟨p,a,xs,rs,wy,rfl,e3 _ _ hp (j1 hp hacc),hrw.keep (jj.new e3 hacc),h100,ha,by rw [ewy];exact xZ L hd hdl,hwlen,λH4 s4=>?_⟩
    walk_at "r"
    refine ⟨_,s4 _ _ h3,by rw [af,af,aJ];exact jg (),_,rfl,?_,λc o hc n=>by rw [j6 n];exact s4 _ _ (e3 c o hc n)⟩
    rw [j5,qH (λw=>decide (jB rs w<=30)) ws j wy ew,aB]
    rfl
   ·rintro σ H2 ⟨x,rfl,h3,e3⟩
    rw [hwl,aW] at h3
    refine ⟨acc,_,rfl,SqL.of h3,?_⟩
    refine fin _ H2 (λc o hc=>e3 c o hc (j1 hc hacc)) ?_
    rw [decide_eq_true (show ((js rs).length:Int)<=6 by rw [<- hrl,<- hwl];exact h1),eJ,hrd.all]
  ·refine fin _ H (jn.refl H) ?_
   rw [decide_eq_false (show ¬((js rs).length:Int)<=6 by rw [<- hrl,<- hwl];exact h1)]
   rfl
noncomputable def Qv (K:ah) (Pt:Addr):Sp:=λvs H Q _=>∃(p:Addr) (xs:List V) (rs:List Rch),vs=[.ref p]/\H p=some (.lst xs)/\qc H xs rs/\(∀r∈rs,r.2.length<=100)/\rs.length<=60/\qK H Pt/\∀H',Ext Pt H H'->qK H' Pt->Q (.bl (zE rs)) H'
theorem JR:FnScope ["reaches"] ["reaches"] (j8 zC):=by walk_at "s"
theorem Jq {f Pt:Addr}{fd:FuncData}{u0:Tok}(nb:Nb2 mg) (g_MOST_REACHES:mg "MOST_REACHES" = some (.int 8 u0)) (c_is_reach:Cal P w K mg base 2 "is_reach" ["number","reach"] ZM) (c_lanes:Cal P w K mg base 5 "lanes" ["reaches"] (ud K Pt)) (c_fits:Cal P w K mg base 2 "fits" ["reaches","ways"] (V4 K)) (F:Fun K "is_valley" "is_valley" zC f fd):FnOk P w K mg base CX0 6 f fd ["reaches"] (Qv K Pt):=by
 refine F.ok JR (λvs H Q E h=>?_) (λcdv A outer s H vs Q E hr h=>?_)
 ·obtain ⟨p,xs,rs,rfl,_⟩:=h
  rfl
 ·obtain ⟨p,xs,rs,rfl,hp,hrw,h100,h60,hT,k⟩:=h
  have hlen:=hrw.length
  have fin:∀(b:Bool) (H':Hp),Ext Pt H H'->qK H' Pt->b=zE rs->Q (.bl b) H':=λb H' x t e=>by rw [e];exact k H' x t
  refine ⟨_,(j4 (jU (xo (xU qE qE j7 (jf (jh K) rfl nb.b_len aT (j0 (pv 0) j2)) (xl (v:=V.int 8) rfl g_MOST_REACHES ⟨_,rfl⟩))) (j9 (jk wV)) jw)
   (j4 (jU (xo (zT (jf (y9 K rfl) rfl nb.b_all oP (j0 (jY (osc:=(j8 zC)) (ON:=["reaches"]) (N:=["number","reach"]) (own:=2) (caps:=[]) ⟨rfl,∅,∅,∅,rfl,∅⟩ rfl rfl rfl (JM K rfl nb.b_enumerate (j0 (pv 0) j2)) (λ_ _ _ _ _=>(qv (n:=2) K rfl (jm (jb (i:=0) (show bo (["number","reach"]:List Str) by decide +kernel) rfl (aP rfl)) (jm (jb (i:=1) (show bo (["number","reach"]:List Str) by decide +kernel) rfl (aP rfl)) qw)))) (λ_ _ _ _ _=>jK) (λ_ _ _ _ _=>(je c_is_reach (hr.mono ⋯) rfl (j0 (pv 0) (j0 (pv 1) j2))))) j2)))) (j9 (jk wV)) jw)
   (j9 (jk (je c_fits (hr.mono ⋯) rfl (j0 (pv 0) (j0 (je c_lanes (hr.mono ⋯) rfl (j0 (pv 0) j2)) j2))))))),?_⟩
  walk_at "r"
  refine ⟨_,_,rfl,.inl (SqL.of hp),?_⟩
  walk_at "r"
  have no:¬(1<=(xs.length:Int)/\(xs.length:Int)<=8)->Q (.bl false) H:=λz=>fin _ H Ext.refl hT (by unfold zE;rw [decide_eq_false (by rw [<- hlen];exact z)];rfl)
  refine qC (λh1=>?_) (λh1=>?_)
  ·walk_at "r"
   refine y3 (λh2=>?_) (λh2=>?_)
   ·walk_at "r"
    exact no λz=>h2 z.2
   ·have h18:decide (1<=(rs.length:Int)/\(rs.length:Int)<=8)=true:=decide_eq_true (by rw [<- hlen];exact ⟨h1,h2⟩)
    walk_at "r"
    refine ⟨⟨_,SqL.of hp⟩,λacc hacc=>?_⟩
    refine YH (K:=K) (a:=p) (xs:=xs) (acc:=acc) (λj σ H2=>∃x y:Option V,σ=[x,y]/\H2 acc=some (.lst ((((aG j)).map λi=>okR i (rs.getD i (-1,[]))).map V.bl))/\Ext acc H H2) ?_ ?_ ?_ ?_
    ·exact ⟨none,none,rfl,j5,Ext.put⟩
    ·rintro j σ H2 hj ⟨x,y,rfl,h3,e3⟩
     exact SqL.of (e3 _ _ hp (j1 hp hacc))
    ·rintro j v σ H2 t hv ⟨x,y,rfl,h3,e3⟩ ht
     have hacct:acc≠t:=λz=>by rw [z] at h3;rw [h3] at ht;cases ht
     obtain ⟨r,hr,hrow⟩:=(hrw.keep (jj.new e3 hacc)).get hv
     have hj:j<rs.length:=(List.getElem?_eq_some_iff.mp hr).1
     walk_at "r"
     refine ⟨t,_,rfl,SqT.of j5,rfl,?_⟩
     refine ⟨_,_,rfl,_,_,rfl,rfl,?_⟩
     walk_at "r"
     refine ⟨j,v,r,rfl,hrow.keep (jj.same (jn.new ht)),h100 r (ax hr),λH4 s4=>?_⟩
     refine ⟨_,s4 _ _ ((jn.new ht) _ _ h3),by rw [af,af,br];exact jg (),_,_,rfl,?_,λc o hc n=>by rw [j6 n];exact s4 _ _ ((jn.new ht) _ _ (e3 c o hc n))⟩
     rw [j5,ck,aB,aB]
     simp only [aN,fb]
     rw [ao,hr]
     rfl
    ·rintro σ H2 ⟨x,y,rfl,h3,e3⟩
     rw [hlen] at h3
     have sm:jn H H2:=λc o hc=>e3 c o hc (j1 hc hacc)
     refine ⟨acc,_,rfl,SqL.of h3,?_⟩
     walk_at "r"
     have eok:(((aG rs.length).map λi=>okR i (rs.getD i (-1,[]))).all λb=>b)=uG rs:=by rw [fP];rfl
     rw [eok]
     cases hok:uG rs with
     | false =>
      refine vt ?_
      walk_at "r"
      exact fin _ H2 (Ext.of_same sm) (hT.same sm) (by unfold zE;rw [hok,h18];rfl)
     | true =>
      refine kO ?_
      have L:=qk hok
      walk_at "r"
      refine ⟨p,xs,rs,rfl,sm _ _ hp,hrw.keep (jj.same sm),L,h60,hT.same sm,λl H3 out ws hl hl3 w3 r3 X3 T3=>?_⟩
      obtain ⟨ps,hPt⟩:=(hT.same sm).ne
      have hp3:=X3 _ _ (sm _ _ hp) (ji (sm _ _ hp) hPt (by walk_at "z"))
      refine ⟨p,l,xs,out,rs,ws,rfl,hp3,hrw.keep ((jj.same sm).trans (jj.tbl X3 hPt)),h100,hl3,w3,r3,L,h60,λH4 s4=>?_⟩
      exact fin _ H4 (((Ext.of_same sm).trans X3).trans (Ext.of_same s4)) (T3.same s4) (by unfold zE;rw [hok,h18];rfl)
  ·refine ⟨_,rfl,vt ?_⟩
   walk_at "r"
   exact no λz=>h1 z.1
theorem uw:FnScope ["_law_number","_law_turn","_law_one"] ["_law_number","_law_turn"] (j8 vc):=by walk_at "s"
theorem U1 {f:Addr}{fd:FuncData}(F:Fun K "_law_mixed" "_law_mixed" vc f fd):FnOk P w K mg base CX0 1 f fd ["_law_number","_law_turn"] ZJ:=by
 refine F.ok uw (λvs H Q E h=>?_) (λcdv A outer s H vs Q E hr h=>?_)
 ·obtain ⟨a,b,rfl,_⟩:=h
  rfl
 ·obtain ⟨a,b,rfl,k⟩:=h
  refine ⟨_,(j4 (jt 2 uw.nd (jq za (jq jN (jq jN (jq uP (pv 0) j7) (jq uP (pv 1) j7)) j7) j7))
   (j9 (jk (jq vX (jq za (jq jN (jq jN (jq uP (pv 2) (jq jN (jq za (pv 2) j7) j7)) (jq uP (pv 1) j7)) (jq za (jq vX (pv 0) j7) j7)) j7) j7)))),?_⟩
  walk_at "r"
  exact k _
theorem ve:FnScope ["_law_box_here","_law_size","_law_left","_law_cell"] ["_law_box_here","_law_size"] (j8 vI):=by walk_at "s"
theorem Ua {f:Addr}{fd:FuncData}(nb:Nb mg) (c_law_mixed:Cal P w K mg base 1 "_law_mixed" ["_law_number","_law_turn"] ZJ) (F:Fun K "_law_take" "_law_take" vI f fd):FnOk P w K mg base CX0 2 f fd ["_law_box_here","_law_size"] xP:=by
 refine F.ok ve (λvs H Q E h=>?_) (λcdv A outer s H vs Q E hr h=>?_)
 ·obtain ⟨L,b,n,rfl,_⟩:=h
  rfl
 ·obtain ⟨L,b,n,rfl,B,⟨hn,hn2⟩,k⟩:=h
  obtain ⟨ns,a,r,c,d,hb,hL,hS,ha⟩:=B
  refine ⟨_,(j4 (xG (jq jN (jo (jd K) (pv 0) j7 (λ_ _=>rfl)) j7) (uU (pv 0) j7 yi))
   (j4 (jU (jz ZD (jo (jd K) (pv 0) j7 (λ_ _=>rfl)) j7 (jG _)) (j4 (jt 2 ve.nd (jo (jd K) (pv 0) j7 (λ_ _=>rfl)))
   (j4 (xG (jq vX (pv 2) (pv 1)) (uU (pv 0) j7 yi))
   (j9 (jk (jq za (pv 2) (pv 1)))))) jw)
   (j4 (jU (jz V7 (jo (jd K) (pv 0) j7 (λ_ _=>rfl)) (jf (jh K) rfl nb.b_len aT (j0 (jo (jd K) (pv 0) j7 (λ_ _=>rfl)) j2)) (jG _)) (j9 (jk (jq za (je c_law_mixed (hr.mono ⋯) rfl (j0 (jo (jd K) (pv 0) j7 (λ_ _=>rfl)) (j0 (jo (jd K) (pv 0) j7 (λ_ _=>rfl)) j2))) (pv 1)))) jw)
   (j4 (jt 3 ve.nd (jo (jd K) (jo (jd K) (pv 0) j7 (λ_ _=>rfl)) (jo (jd K) (pv 0) j7 (λ_ _=>rfl)) (λ_ _=>rfl)))
   (j4 (xG (jq jN (jo (jd K) (pv 0) j7 (λ_ _=>rfl)) j7) (uU (pv 0) j7 yi))
   (j4 (jU (jz vw (pv 3) (jq JK j7 j7) (jG _)) (j9 (jk (jq za (je c_law_mixed (hr.mono ⋯) rfl (j0 (pv 3) (j0 (jo (jd K) (pv 0) j7 (λ_ _=>rfl)) j2))) (pv 1)))) jw)
   (j4 (xG (jq vX (pv 3) (pv 1)) (uU (pv 0) j7 yi))
   (j9 (jk (jq za (pv 3) (pv 1))))))))))),?_⟩
  walk_at "r"
  refine qC (λh1=>?_) (λh1=>?_)
  ·walk_at "r"
   exact k _ _ (eG _ ()) (di _ hn) ⟨ns,_,_,_,_,j5,hL,(Ext.put.trans Ext.put) _ _ hS hL,ha⟩ (Ext.put.trans Ext.put)
  ·have hS1:∀o,SqL K (upd H b o) L (ns.map V.int):=λo=>SqL.of (Ext.put _ _ hS hL)
   walk_at "r"
   refine ⟨_,_,rfl,.inl (hS1 _),?_⟩
   walk_at "r"
   refine qC (λh2=>?_) (λh2=>?_)
   ·walk_at "r"
    refine ⟨_,_,rfl,λz=>?_⟩
    walk_at "r"
    exact k _ _ (eG _ ()) (di _ hn) ⟨ns,_,_,_,_,j5,hL,Ext.put _ _ hS hL,ha⟩ Ext.put
   ·have h3:a<ns.length:=by
     rw [af] at h2
     omega
    obtain ⟨z,hz⟩:=uN ha h3
    walk_at "r"
    refine ⟨_,_,_,_,rfl,rfl,hS1 _,hz,?_⟩
    walk_at "r"
    refine qC (λh4=>?_) (λh4=>?_)
    ·walk_at "r"
     refine ⟨_,_,rfl,λz=>?_⟩
     walk_at "r"
     exact k _ _ (eG _ ()) (di _ hn) ⟨ns,_,_,_,_,j5,hL,(Ext.put.trans Ext.put) _ _ hS hL,()⟩ (Ext.put.trans Ext.put)
    ·walk_at "r"
     exact k _ _ (eG _ ()) (di _ hn) ⟨ns,_,_,_,_,j5,hL,((Ext.put.trans Ext.put).trans Ext.put) _ _ hS hL,()⟩ ((Ext.put.trans Ext.put).trans Ext.put)
theorem yy:FnScope ["_law_script","_law_seed","_law_cell"] ["_law_script"] (j8 uC):=by walk_at "s"
theorem WX {f:Addr}{fd:FuncData}(nb:Nb mg) (F:Fun K "_law_box" "_law_box" uC f fd):FnOk P w K mg base CX0 1 f fd ["_law_script"] (VD K):=by
 refine F.ok yy (λvs H Q E h=>?_) (λcdv A outer s H vs Q E hr h=>?_)
 ·obtain ⟨a,ns,rfl,_⟩:=h
  rfl
 ·obtain ⟨a,ns,rfl,hS,k⟩:=h
  refine ⟨_,(j4 (jt 1 yy.nd j7)
   (j4 (qt aV rfl (jP K (pv 0)) (jb (i:=2) yy.nd rfl (aP rfl)) (j9 (jt 1 yy.nd (jq za (jq jN (jq jN (jq uP (pv 1) j7) (jq za (pv 2) j7)) j7) j7))))
   (j9 (jk (jL (j0 (qI (qJ K) rfl nb.b_list bT (j0 (pv 0) j2)) (j0 j7 (j0 j7 (j0 j7 (j0 (pv 1) j2)))))))))),?_⟩
  walk_at "r"
  refine ⟨⟨_,hS⟩,zw (K:=K) (a:=a) (xs:=ns.map V.int) (λi σ H2=>∃(seed:Int) (v:Option V),σ=[some (.ref a),some (.int seed),v]/\H2=H) ⟨_,_,rfl,rfl⟩ (λi σ H2 _ ⟨_,_,_,e⟩=>by rw [e];exact hS) ?_ ?_⟩
  ·rintro i y σ H2 hi ⟨seed,v,rfl,rfl⟩
   obtain ⟨z,rfl⟩:=yM hi
   walk_at "r"
   exact ⟨_,_,rfl,rfl⟩
  ·rintro σ H2 ⟨seed,v,rfl,rfl⟩
   walk_at "r"
   refine ⟨a,_,rfl,.inl hS,λL H3 hL hL3 s3=>?_⟩
   walk_at "r"
   refine ⟨by show 5<=sizeLine;decide,λb H4 hb hb4 s4=>?_⟩
   exact k L b _ (s3.free hb) ⟨ns,_,_,_,_,hb4,j1 hL3 hb,s4 _ _ hL3,mU _⟩ (s3.trans s4)
noncomputable def good (t:T3):Bool:=decide (0<=t.1/\t.1<=100/\0<=t.2.1/\t.2.1<=9/\0<=t.2.2/\t.2.2<=9)
noncomputable def gr (ts:List T3):Bool:=decide (1<=(ts.length:Int)/\(ts.length:Int)<=12) && ts.all good
theorem We {ts:List T3}(h:¬(1<=(ts.length:Int)/\(ts.length:Int)<=12)):gr ts=false:=by unfold gr;rw [decide_eq_false h];rfl
theorem Wy {ts:List T3}(h:1<=(ts.length:Int)/\(ts.length:Int)<=12):gr ts=(ts.map good).all λb=>b:=by
 unfold gr
 rw [decide_eq_true h,eJ,fP]
 rfl
noncomputable def Xy:Sp:=λvs H Q _=>∃(p:Addr) (t:T3),vs=[.ref p]/\H p=some (yo t)/\Q (.bl (good t)) H
local macro_rules | `(tactic| walk_at "forks")=>`(tactic| (walk_at "r";first | (refine qC (fun _=>?_) (fun _=>?_) <;> walk_at "forks") | skip))
theorem xQ:FnScope ["row","line","snow","sun"] ["row"] (j8 yt):=by walk_at "s"
theorem gm {f:Addr}{fd:FuncData}{u0 u1:Tok}(g_HIGHEST_LINE:mg "HIGHEST_LINE" = some (.int 100 u0)) (g_MOST_HANDS:mg "MOST_HANDS" = some (.int 9 u1)) (F:Fun K "is_weather" "is_weather" yt f fd):FnOk P w K mg base CX0 1 f fd ["row"] Xy:=by
 refine F.ok xQ (λvs H Q E h=>?_) (λcdv A outer s H vs Q E hr h=>?_)
 ·obtain ⟨p,t,rfl,_⟩:=h
  rfl
 ·obtain ⟨p,⟨l,sn,u⟩,rfl,hp,k⟩:=h
  refine ⟨_,(j4 (xG (pv 0) (qv (n:=3) K rfl (jm (jb (i:=1) xQ.nd rfl (aP rfl)) (jm (jb (i:=2) xQ.nd rfl (aP rfl)) (jm (jb (i:=3) xQ.nd rfl (aP rfl)) qw)))))
   (j9 (jk (yp (zZ qE qE j7 (pv 1) (xl (v:=V.int 100) rfl g_HIGHEST_LINE ⟨_,rfl⟩)) (yp (zZ qE qE j7 (pv 2) (xl (v:=V.int 9) rfl g_MOST_HANDS ⟨_,rfl⟩)) (yY (zZ qE qE j7 (pv 3) (xl (v:=V.int 9) rfl g_MOST_HANDS ⟨_,rfl⟩)))))))),?_⟩
  walk_at "r"
  refine ⟨p,_,rfl,SqT.of hp,rfl,?_⟩
  refine ⟨_,_,rfl,_,_,rfl,_,_,rfl,rfl,?_⟩
  walk_at "forks"
  all_goals
   refine Eq.mp (congrArg (λz=>Q (V.bl z) H) ?_) k
   unfold good
   dsimp only at *
   first | (apply decide_eq_false;omega) | (apply decide_eq_decide.mpr;omega)
theorem Xm:FnScope ["rows"] ["rows"] (j8 yk):=by walk_at "s"
noncomputable def ZO (K:ah):Sp:=λvs H Q _=>∃(p:Addr) (xs:List V) (ts:List T3),vs=[.ref p]/\H p=some (.lst xs)/\jD H xs ts/\ts.length<=1000/\∀H',jn H H'->Q (.bl (gr ts)) H'
theorem Qs {f:Addr}{fd:FuncData}{u0:Tok}(nb:Nb mg) (g_MOST_ROWS:mg "MOST_ROWS" = some (.int 12 u0)) (c_is_weather:Cal P w K mg base 1 "is_weather" ["row"] Xy) (F:Fun K "is_round" "is_round" yk f fd):FnOk P w K mg base CX0 2 f fd ["rows"] (ZO K):=by
 refine F.ok Xm (λvs H Q E h=>?_) (λcdv A outer s H vs Q E hr h=>?_)
 ·obtain ⟨p,xs,ts,rfl,_⟩:=h
  rfl
 ·obtain ⟨p,xs,ts,rfl,hp,hr3,h1000,k⟩:=h
  have hlen:=hr3.length
  refine ⟨_,(j9 (jk (yp (zZ qE qE j7 (jf (jh K) rfl nb.b_len aT (j0 (pv 0) j2)) (xl (v:=V.int 12) rfl g_MOST_ROWS ⟨_,rfl⟩)) (yY (jf (y9 K rfl) rfl nb.b_all oP (j0 (jY (osc:=(j8 yk)) (ON:=["rows"]) (N:=["row"]) (own:=1) (caps:=[]) ⟨rfl,∅,∅,∅,rfl,∅⟩ rfl rfl rfl (jP K (pv 0)) (λ_ _ _ _ _=>(jb (i:=0) (show bo (["row"]:List Str) by decide +kernel) rfl (aP rfl))) (λ_ _ _ _ _=>jK) (λ_ _ _ _ _=>(je c_is_weather (hr.mono ⋯) rfl (j0 (pv 0) j2)))) j2)))))),?_⟩
  walk_at "r"
  refine ⟨_,_,rfl,.inl (SqL.of hp),?_⟩
  walk_at "r"
  refine qC (λh1=>?_) (λh1=>?_)
  ·walk_at "r"
   refine qC (λh2=>?_) (λh2=>?_)
   ·walk_at "r"
    refine ⟨⟨_,SqL.of hp⟩,λacc hacc=>?_⟩
    refine qp (K:=K) (a:=p) (xs:=xs) (acc:=acc) (λi σ H2=>∃x:Option V,σ=[x]/\H2 acc=some (.lst (((ts.take i).map good).map V.bl))/\Ext acc H H2) ?_ ?_ ?_ ?_
    ·exact ⟨none,rfl,j5,Ext.put⟩
    ·rintro i σ H2 hi ⟨x,rfl,h3,e3⟩
     exact SqL.of (e3 _ _ hp (j1 hp hacc))
    ·rintro i v σ H2 hv ⟨x,rfl,h3,e3⟩
     obtain ⟨t,ht,q,rfl,hq⟩:=hr3.get hv
     have hi:i<ts.length:=(List.getElem?_eq_some_iff.mp ht).1
     walk_at "r"
     refine ⟨q,t,rfl,e3 _ _ hq (j1 hq hacc),?_⟩
     refine ⟨_,h3,by rw [af,af,aJ];exact jg (),_,rfl,?_,e3.trans Ext.put⟩
     rw [j5,qH good ts i t ht,aB]
     rfl
    ·rintro σ H2 ⟨x,rfl,h3,e3⟩
     rw [hlen,aW] at h3
     refine ⟨acc,ts.map good,rfl,SqL.of h3,?_⟩
     have k2:=k H2 λc o hc=>e3 c o hc (j1 hc hacc)
     rw [Wy (by rw [hlen] at h1 h2;exact ⟨h1,h2⟩)] at k2
     exact k2
   ·walk_at "r"
    have k2:=k H (jn.refl H)
    rw [We (by rw [hlen] at h2;intro z;exact h2 z.2)] at k2
    exact k2
  ·walk_at "r"
   have k2:=k H (jn.refl H)
   rw [We (by rw [hlen] at h1;intro z;exact h1 z.1)] at k2
   exact k2
noncomputable def uS:Sp:=λvs H Q _=>∃(L b:Addr),vs=[.ref b]/\qj L H b/\∀(p:Addr) (H':Hp) (t:T3),qj L H' b->Ext b H H'->H' p=some (yo t)->good t=true->Q (.ref p) H'
theorem yJ:FnScope ["_law_box_here","_law_line"] ["_law_box_here"] (j8 zU):=by walk_at "s"
theorem five {v3 v1 v2:Int}(a:0<=v3) (b:v3<5) (c:0<=v1) (d:v1<20) (e:0<=v2) (g:v2<101):∃ln,atI [V.int (40+v1),V.int v2,V.int 0,V.int 100,V.int 50] v3=some (V.int ln)/\0<=ln/\ln<=100:=by
 have h:v3=0\/v3=1\/v3=2\/v3=3\/v3=4:=()
 rcases h with rfl | rfl | rfl | rfl | rfl
 ·exact ⟨40+v1,rfl,(),()⟩
 ·exact ⟨v2,rfl,(),()⟩
 ·exact ⟨0,rfl,(),()⟩
 ·exact ⟨100,rfl,(),()⟩
 ·exact ⟨50,rfl,(),()⟩
theorem Zi {f:Addr}{fd:FuncData}(c_law_take:Cal P w K mg base 2 "_law_take" ["_law_box_here","_law_size"] xP) (F:Fun K "_law_weather" "_law_weather" zU f fd):FnOk P w K mg base CX0 3 f fd ["_law_box_here"] uS:=by
 refine F.ok yJ (λvs H Q E h=>?_) (λcdv A outer s H vs Q E hr h=>?_)
 ·obtain ⟨L,b,rfl,_⟩:=h
  rfl
 ·obtain ⟨L,b,rfl,B,k⟩:=h
  refine ⟨_,(j4 (jt 1 yJ.nd (jo (jd K) (jL (j0 (jq jN j7 (je c_law_take (hr.mono ⋯) rfl (j0 (pv 0) (j0 j7 j2)))) (j0 (je c_law_take (hr.mono ⋯) rfl (j0 (pv 0) (j0 j7 j2))) (j0 j7 (j0 j7 (j0 j7 j2)))))) (je c_law_take (hr.mono ⋯) rfl (j0 (pv 0) (j0 j7 j2))) (λ_ _=>rfl)))
   (j9 (jk (jS (j0 (pv 1) (j0 (je c_law_take (hr.mono ⋯) rfl (j0 (pv 0) (j0 j7 j2))) (j0 (je c_law_take (hr.mono ⋯) rfl (j0 (pv 0) (j0 j7 j2))) j2))))))),?_⟩
  walk_at "r"
  refine ⟨L,b,_,rfl,B,⟨⋯,⋯⟩,λv1 H1 p1 q1 B1 X1=>?_⟩
  walk_at "r"
  refine ⟨L,b,_,rfl,B1,⟨⋯,⋯⟩,λv2 H2 p2 q2 B2 X2=>?_⟩
  refine ⟨by show 5<=sizeLine;decide,λq Hq hq hqq sq=>?_⟩
  walk_at "r"
  refine ⟨L,b,_,rfl,B2.same sq,⟨⋯,⋯⟩,λv3 H3 p3 q3 B3 X3=>?_⟩
  have hq3:=X3 _ _ hqq (B2.ne hq)
  obtain ⟨ln,hln,l0,l1⟩:=five p3 q3 p1 q1 p2 q2
  refine ⟨_,_,_,_,rfl,rfl,SqL.of hq3,hln,?_⟩
  walk_at "r"
  refine ⟨L,b,_,rfl,B3,⟨⋯,⋯⟩,λv4 H4 p4 q4 B4 X4=>?_⟩
  walk_at "r"
  refine ⟨L,b,_,rfl,B4,⟨⋯,⋯⟩,λv5 H5 p5 q5 B5 X5=>?_⟩
  refine ⟨by show 3<=sizeLine;decide,λp Hp hp hpp sp=>?_⟩
  exact k p _ (ln,v4,v5) (B5.same sp) ((((((X1.trans X2).trans (Ext.of_same sq)).trans X3).trans X4).trans X5).trans (Ext.of_same sp)) hpp (decide_eq_true ⟨l0,l1,p4,(show v4<=9 by omega),p5,(show v5<=9 by omega)⟩)
noncomputable def w9:Sp:=λvs H Q _=>∃(L b:Addr),vs=[.ref b]/\qj L H b/\∀(p:Addr) (H':Hp) (xs:List V) (ts:List T3),qj L H' b->Ext b H H'->H p=none->H' p=some (.lst xs)->jD H' xs ts->(1<=ts.length/\ts.length<=12)->ts.all good=true->Q (.ref p) H'
theorem Jr:FnScope ["_law_box_here"] ["_law_box_here"] (j8 zD):=by walk_at "s"
theorem GJ {v:Int}(a:0<=v) (b:v<3):∃n,atI [V.int 1,V.int 3,V.int 12] v=some (V.int n)/\0<n/\n<=12:=by
 have h:v=0\/v=1\/v=2:=()
 rcases h with rfl | rfl | rfl
 ·exact ⟨1,rfl,(),()⟩
 ·exact ⟨3,rfl,(),()⟩
 ·exact ⟨12,rfl,(),()⟩
theorem Vp {f:Addr}{fd:FuncData}(nb:Nb mg) (c_law_take:Cal P w K mg base 2 "_law_take" ["_law_box_here","_law_size"] xP) (c_law_weather:Cal P w K mg base 3 "_law_weather" ["_law_box_here"] uS) (F:Fun K "_law_round" "_law_round" zD f fd):FnOk P w K mg base CX0 4 f fd ["_law_box_here"] w9:=by
 refine F.ok Jr (λvs H Q E h=>?_) (λcdv A outer s H vs Q E hr h=>?_)
 ·obtain ⟨L,b,rfl,_⟩:=h
  rfl
 ·obtain ⟨L,b,rfl,B,k⟩:=h
  refine ⟨_,(j9 (jk (jY (osc:=(j8 zD)) (ON:=["_law_box_here"]) (N:=["_law_turn","_law_box_here"]) (own:=1) (caps:=[0]) ⟨rfl,∅,∅,∅,rfl,∅⟩ rfl rfl rfl (qh rfl nb.b_range (j0 (jq jN j7 (je c_law_take (hr.mono ⋯) rfl (j0 (pv 0) (j0 (jo (jd K) (jL (j0 j7 (j0 j7 (j0 j7 j2)))) (je c_law_take (hr.mono ⋯) rfl (j0 (pv 0) (j0 j7 j2))) (λ_ _=>rfl)) j2)))) j2)) (λ_ _ _ _ _=>(jb (i:=0) (show bo (["_law_turn","_law_box_here"]:List Str) by decide +kernel) rfl (aP rfl))) (λ_ _ _ _ _=>jK) (λ_ _ _ _ _=>(je c_law_weather (hr.mono ⋯) rfl (j0 (pv 1) j2)))))),?_⟩
  walk_at "r"
  refine ⟨by show 3<=sizeLine;decide,λq Hq hq hqq sq=>?_⟩
  walk_at "r"
  refine ⟨L,b,_,rfl,B.same sq,⟨⋯,⋯⟩,λv1 H1 p1 q1 B1 X1=>?_⟩
  obtain ⟨n,hn,n0,n1⟩:=GJ p1 q1
  refine ⟨_,_,_,_,rfl,rfl,SqL.of (X1 _ _ hqq (B.ne hq)),hn,?_⟩
  refine ⟨L,b,_,rfl,B1,⟨n0,()⟩,λv2 H2 p2 q2 B2 X2=>?_⟩
  refine ⟨_,_,rfl,rfl,?_⟩
  refine ⟨1+v2,rfl,(),(),λacc hacc=>?_⟩
  have nb1:=B2.ne hacc
  have nb2:=B2.neL hacc
  have hfree:∀a,H2 a=none->a≠b->H a=none:=λa n nb=>jn.free sq (X1.free (X2.free n nb) nb)
  refine xn (lo:=0) (n:=(1+v2).toNat) (acc:=acc) (λi σ H3=>∃(x:Option V) (xs:List V) (ts:List T3),σ=[x,some (.ref b)]/\qj L H3 b/\(∀c o,H2 c=some o->c≠b->H3 c=some o)/\H3 acc=some (.lst xs)/\jD H3 xs ts/\ts.length=i/\ts.all good=true) ?_ ?_ ?_
  ·exact ⟨none,[],[],rfl,B2.put nb1 nb2,λc o hc n=>Ext.put _ _ hc (j1 hc hacc),j5,.nil,rfl,rfl⟩
  ·rintro i σ H3 hi ⟨x,xs,ts,rfl,B3,ks,h3,r3,hl,hg⟩
   walk_at "r"
   refine ⟨L,b,rfl,B3,λp H4 t B4 X4 hp ht=>?_⟩
   have h4:=X4 _ _ h3 nb1
   have r4:jD H4 xs ts:=r3.imp λp t e=>X4 _ _ e (B3.ne_tup e)
   have hlen:=r4.length
   refine ⟨xs,h4,jg (),_,xs++[.ref p],ts++[t],rfl,B4.put nb1 nb2,λc o hc n=>Ext.put _ _ (X4 _ _ (ks c o hc n) n) (j1 hc hacc),j5,?_,by rw [ak,hl];rfl,by rw [List.all_append,hg];simp [ht]⟩
   exact jD.imp (r4.snoc ⟨p,rfl,hp⟩) λq t e=>Ext.put _ _ e (ji e h4 (by walk_at "z"))
  ·rintro σ H3 ⟨x,xs,ts,rfl,B3,ks,h3,r3,hl,hg⟩
   exact k acc H3 xs ts B3 (λc o hc n=>ks c o (X2 _ _ (X1 _ _ (sq _ _ hc) n) n) n) (hfree acc hacc nb1) h3 r3 () hg
theorem JD:FnScope ["_law_found"] ["_law_found"] (j8 yN):=by walk_at "s"
theorem V9 {f:Addr}{fd:FuncData}(nb:Nb2 mg) (F:Fun K "_law_whole" "_law_whole" yN f fd):FnOk P w K mg base CX0 1 f fd ["_law_found"] Zu:=by
 refine F.ok JD (λvs H Q E h=>?_) (λcdv A outer s H vs Q E hr h=>?_)
 ·obtain ⟨i,rfl,_⟩:=h
  rfl
 ·obtain ⟨i,rfl,k⟩:=h
  refine ⟨_,(j9 (jk (yp (jf (jX K) rfl nb.b_isinstance c7 (j0 (pv 0) (j0 (xz (v:=V.ty "int") rfl nb.b_int mx rfl) j2))) (yY (G3 (jf (jX K) rfl nb.b_isinstance c7 (j0 (pv 0) (j0 (xz (v:=V.ty "bool") rfl nb.b_bool fU rfl) j2)))))))),?_⟩
  walk_at "r"
  refine ⟨_,_,_,_,rfl,.int _,ku K,_,rfl,vt ?_⟩
  walk_at "r"
  refine ⟨_,_,_,_,rfl,.int _,wm K,_,rfl,?_⟩
  exact k
theorem uk:FnScope ["_law_found","_law_due"] ["_law_found","_law_due"] (j8 xS):=by walk_at "s"
theorem Y9 {f:Addr}{fd:FuncData}(F:Fun K "_law_alike" "_law_alike" xS f fd):FnOk P w K mg base CX0 1 f fd ["_law_found","_law_due"] (Ud 0):=by
 refine F.ok uk (λvs H Q E h=>?_) (λcdv A outer s H vs Q E hr h=>?_)
 ·obtain ⟨x,y,d,rfl,_⟩:=h
  rfl
 ·obtain ⟨x,y,d,rfl,_,_,z,_⟩:=h
  cases z
theorem uF (n:Nat) {f:Addr}{fd:FuncData}(nb:Nb2 mg) (c_law_whole:Cal P w K mg base 1 "_law_whole" ["_law_found"] Zu) (c_law_alike:Cal P w K mg base (n+1) "_law_alike" ["_law_found","_law_due"] (Ud n)) (F:Fun K "_law_alike" "_law_alike" xS f fd):FnOk P w K mg base CX0 (n+2) f fd ["_law_found","_law_due"] (Ud (n+1)):=by
 refine F.ok uk (λvs H Q E h=>?_) (λcdv A outer s H vs Q E hr h=>?_)
 ·obtain ⟨x,y,d,rfl,_⟩:=h
  rfl
 ·obtain ⟨x,y,d,rfl,hx,hy,hs,k⟩:=h
  refine ⟨_,(j4 (jU (jz Z2 (pv 1) JA (jG _)) (j9 (jk (zB Z2 (pv 0) JA (jG _)))) jw)
   (j4 (jU (zT (jf (jX K) rfl nb.b_isinstance c7 (j0 (pv 1) (j0 (xz (v:=V.ty "bool") rfl nb.b_bool fU rfl) j2)))) (j9 (jk (yp (jf (jX K) rfl nb.b_isinstance c7 (j0 (pv 0) (j0 (xz (v:=V.ty "bool") rfl nb.b_bool fU rfl) j2))) (yY (zB y8 (pv 0) (pv 1) (jG _)))))) jw)
   (j4 (jU (zT (jf (jX K) rfl nb.b_isinstance c7 (j0 (pv 1) (j0 (xz (v:=V.ty "int") rfl nb.b_int mx rfl) j2)))) (j9 (jk (yp (je c_law_whole (hr.mono ()) rfl (j0 (pv 0) j2)) (yY (zB y8 (pv 0) (pv 1) (jG _)))))) jw)
   (j4 (jU (zT (jf (jX K) rfl nb.b_isinstance c7 (j0 (pv 1) (j0 (xz (v:=V.ty "str") rfl nb.b_str my rfl) j2)))) (j9 (jk (yp (jf (jX K) rfl nb.b_isinstance c7 (j0 (pv 0) (j0 (xz (v:=V.ty "str") rfl nb.b_str my rfl) j2))) (yY (zB y8 (pv 0) (pv 1) (jG _)))))) jw)
   (j4 (jU (PW.pt (W1 (jz VH (jf (jX K) rfl nb.b_isinstance c7 (j0 (pv 1) (j0 (xz (v:=V.ty "list") rfl nb.b_list bT rfl) j2))) (jf (jX K) rfl nb.b_isinstance c7 (j0 (pv 0) (j0 (xz (v:=V.ty "list") rfl nb.b_list bT rfl) j2))) (jG _)) (YX (jz VH (jf (jX K) rfl nb.b_isinstance c7 (j0 (pv 1) (j0 (xz (v:=V.ty "tuple") rfl nb.b_tuple cQ rfl) j2))) (jf (jX K) rfl nb.b_isinstance c7 (j0 (pv 0) (j0 (xz (v:=V.ty "tuple") rfl nb.b_tuple cQ rfl) j2))) (jG _))))) (j9 (jk wV)) jw)
   (j9 (jk (yp (zB y8 (jf (jh K) rfl nb.b_len aT (j0 (pv 0) j2)) (jf (jh K) rfl nb.b_len aT (j0 (pv 1) j2)) (jG _)) (yY (jf (y9 K rfl) rfl nb.b_all oP (j0 (jY (osc:=(j8 xS)) (ON:=["_law_found","_law_due"]) (N:=["_law_one","_law_other"]) (own:=2) (caps:=[]) ⟨rfl,∅,∅,∅,rfl,∅⟩ rfl rfl rfl (Um K rfl nb.b_zip (j0 (pv 0) (j0 (pv 1) j2))) (λ_ _ _ _ _=>(qv (n:=2) K rfl (jm (jb (i:=0) (show bo (["_law_one","_law_other"]:List Str) by decide +kernel) rfl (aP rfl)) (jm (jb (i:=1) (show bo (["_law_one","_law_other"]:List Str) by decide +kernel) rfl (aP rfl)) qw)))) (λ_ _ _ _ _=>jK) (λ_ _ _ _ _=>(je c_law_alike (hr.mono ()) rfl (j0 (pv 0) (j0 (pv 1) j2))))) j2))))))))))),?_⟩
  cases d with
  | none =>
   cases hx;cases hy
   walk_at "r"
   exact k H (jn.refl _)
  | bool b =>
   cases hx;cases hy
   walk_at "r"
   refine ⟨_,_,_,_,rfl,.bl _,vY K,_,rfl,vt ?_⟩
   walk_at "r"
   refine ⟨_,_,_,_,rfl,.bl _,vY K,_,rfl,vt ?_⟩
   walk_at "r"
   have k':=k H (jn.refl _)
   rw [decide_eq_true rfl]
   exact k'
  | int i =>
   cases hx;cases hy
   walk_at "r"
   refine ⟨_,_,_,_,rfl,.int _,wm K,_,rfl,kO ?_⟩
   walk_at "r"
   refine ⟨_,_,_,_,rfl,.int _,ku K,_,rfl,vt ?_⟩
   walk_at "r"
   have k':=k H (jn.refl _)
   rw [decide_eq_true rfl]
   exact k'
  | str i =>
   cases hx;cases hy
   walk_at "r"
   refine ⟨_,_,_,_,rfl,.str _,QD K,_,rfl,kO ?_⟩
   walk_at "r"
   refine ⟨_,_,_,_,rfl,.str _,Xx K,_,rfl,kO ?_⟩
   walk_at "r"
   refine ⟨_,_,_,_,rfl,.str _,kF K,_,rfl,vt ?_⟩
   walk_at "r"
   refine ⟨_,_,_,_,rfl,.str _,kF K,_,rfl,vt ?_⟩
   walk_at "r"
   have k':=k H (jn.refl _)
   rw [decide_eq_true rfl]
   exact k'
  | list ds =>
   cases hx with
   | @lst a va _ ha da =>
   cases hy with
   | @lst b vb _ hb db =>
   have el:=da.length
   have el2:=db.length
   have hsm:ds.length<=1000/\ds.all (zy n)=true:=by
    have z:(decide (ds.length<=1000) && ds.all (zy n))=true:=hs
    rw [bf] at z
    exact ⟨of_decide_eq_true z.1,z.2⟩
   walk_at "r"
   refine ⟨_,_,_,_,rfl,.lst hb,JJ K,_,rfl,kO ?_⟩
   walk_at "r"
   refine ⟨_,_,_,_,rfl,.lst hb,QP K,_,rfl,kO ?_⟩
   walk_at "r"
   refine ⟨_,_,_,_,rfl,.lst hb,Qy K,_,rfl,kO ?_⟩
   walk_at "r"
   refine ⟨_,_,_,_,rfl,.lst hb,ue K,?_⟩
   walk_at "r"
   refine ⟨_,_,_,_,rfl,.lst ha,ue K,?_⟩
   walk_at "r"
   refine ⟨_,_,_,_,rfl,.lst hb,vA K,?_⟩
   walk_at "r"
   refine ⟨_,_,_,_,rfl,.lst ha,vA K,?_⟩
   walk_at "r"
   refine ⟨_,_,rfl,.inl (SqL.of ha),?_⟩
   walk_at "r"
   refine ⟨_,_,rfl,.inl (SqL.of hb),?_⟩
   walk_at "r"
   rw [el,el2]
   refine qC (λ_=>?_) (λz=>absurd rfl z)
   walk_at "r"
   refine ⟨false,false,_,_,rfl,⟨_,SqL.of ha⟩,⟨_,SqL.of hb⟩,λacc hacc=>?_⟩
   refine Jf (K:=K) (t0:=false) (u0:=false) (a:=a) (b:=b) (xs:=va) (ys:=vb) (acc:=acc) (el.trans el2.symm) (λj σ H2=>∃x y:Option V,σ=[x,y]/\H2 acc=some (.lst ((df j true).map V.bl))/\Ext acc H H2) ?_ ?_ ?_ ?_
   ·exact ⟨none,none,rfl,j5,Ext.put⟩
   ·rintro j σ H2 hj ⟨x,y,rfl,h3,e3⟩
    exact ⟨SqL.of (e3 _ _ ha (j1 ha hacc)),SqL.of (e3 _ _ hb (j1 hb hacc))⟩
   ·rintro j x y σ H2 p hx hy ⟨v1,v2,rfl,h3,e3⟩ hp
    obtain ⟨d1,hd1,q1⟩:=da.get hx
    obtain ⟨d2,hd2,q2⟩:=db.get hy
    rw [hd1] at hd2
    cases hd2
    have hj:j<ds.length:=(List.getElem?_eq_some_iff.mp hd1).1
    have s2:jn H (upd H2 p (.tup [x,y])):=λc o hc=>(jn.new hp) _ _ (e3 _ _ hc (j1 hc hacc))
    have q1':=q1.same s2
    have q2':=q2.same s2
    have h3':upd H2 p (.tup [x,y]) acc=_:=(jn.new hp) _ _ h3
    have e3':Ext acc H (upd H2 p (.tup [x,y])):=λc o hc n=>(jn.new hp) _ _ (e3 _ _ hc n)
    have hp':upd H2 p (.tup [x,y]) p=some (.tup [x,y]):=j5
    generalize upd H2 p (.tup [x,y])=H4 at s2 q1' q2' h3' e3' hp'
    walk_at "r"
    refine ⟨p,_,rfl,SqT.of hp',rfl,?_⟩
    refine ⟨_,_,rfl,_,_,rfl,rfl,?_⟩
    walk_at "r"
    refine ⟨x,y,d1,rfl,q1',q2',List.all_eq_true.mp hsm.2 _ (ax hd1),λH5 s5=>?_⟩
    refine ⟨_,s5 _ _ h3',by rw [af,eL];exact jg (),_,_,rfl,?_,λc o hc n=>by rw [j6 n];exact s5 _ _ (e3' c o hc n)⟩
    rw [j5,mV,aB]
    rfl
   ·rintro σ H2 ⟨v1,v2,rfl,h3,e3⟩
    refine ⟨acc,_,rfl,SqL.of h3,?_⟩
    have e:((df va.length true).all λb=>b)=true:=by
     rw [bI]
     intro x hx
     exact (List.mem_replicate.mp hx).2
    rw [e]
    exact k H2 λc o hc=>e3 c o hc (j1 hc hacc)
  | tuple ds =>
   cases hx with
   | @tup a va _ ha da =>
   cases hy with
   | @tup b vb _ hb db =>
   have el:=da.length
   have el2:=db.length
   have hsm:ds.length<=1000/\ds.all (zy n)=true:=by
    have z:(decide (ds.length<=1000) && ds.all (zy n))=true:=hs
    rw [bf] at z
    exact ⟨of_decide_eq_true z.1,z.2⟩
   walk_at "r"
   refine ⟨_,_,_,_,rfl,.tup hb,gp K,_,rfl,kO ?_⟩
   walk_at "r"
   refine ⟨_,_,_,_,rfl,.tup hb,JN K,_,rfl,kO ?_⟩
   walk_at "r"
   refine ⟨_,_,_,_,rfl,.tup hb,Jo K,_,rfl,kO ?_⟩
   walk_at "r"
   refine ⟨_,_,_,_,rfl,.tup hb,vB K,?_⟩
   walk_at "r"
   refine ⟨_,_,_,_,rfl,.tup ha,vB K,?_⟩
   walk_at "r"
   refine ⟨_,_,_,_,rfl,.tup hb,vd K,?_⟩
   walk_at "r"
   refine ⟨_,_,_,_,rfl,.tup ha,vd K,?_⟩
   walk_at "r"
   refine ⟨_,_,rfl,.inr (SqT.of ha),?_⟩
   walk_at "r"
   refine ⟨_,_,rfl,.inr (SqT.of hb),?_⟩
   walk_at "r"
   rw [el,el2]
   refine qC (λ_=>?_) (λz=>absurd rfl z)
   walk_at "r"
   refine ⟨true,true,_,_,rfl,⟨_,SqT.of ha⟩,⟨_,SqT.of hb⟩,λacc hacc=>?_⟩
   refine Jf (K:=K) (t0:=true) (u0:=true) (a:=a) (b:=b) (xs:=va) (ys:=vb) (acc:=acc) (el.trans el2.symm) (λj σ H2=>∃x y:Option V,σ=[x,y]/\H2 acc=some (.lst ((df j true).map V.bl))/\Ext acc H H2) ?_ ?_ ?_ ?_
   ·exact ⟨none,none,rfl,j5,Ext.put⟩
   ·rintro j σ H2 hj ⟨x,y,rfl,h3,e3⟩
    exact ⟨SqT.of (e3 _ _ ha (j1 ha hacc)),SqT.of (e3 _ _ hb (j1 hb hacc))⟩
   ·rintro j x y σ H2 p hx hy ⟨v1,v2,rfl,h3,e3⟩ hp
    obtain ⟨d1,hd1,q1⟩:=da.get hx
    obtain ⟨d2,hd2,q2⟩:=db.get hy
    rw [hd1] at hd2
    cases hd2
    have hj:j<ds.length:=(List.getElem?_eq_some_iff.mp hd1).1
    have s2:jn H (upd H2 p (.tup [x,y])):=λc o hc=>(jn.new hp) _ _ (e3 _ _ hc (j1 hc hacc))
    have q1':=q1.same s2
    have q2':=q2.same s2
    have h3':upd H2 p (.tup [x,y]) acc=_:=(jn.new hp) _ _ h3
    have e3':Ext acc H (upd H2 p (.tup [x,y])):=λc o hc n=>(jn.new hp) _ _ (e3 _ _ hc n)
    have hp':upd H2 p (.tup [x,y]) p=some (.tup [x,y]):=j5
    generalize upd H2 p (.tup [x,y])=H4 at s2 q1' q2' h3' e3' hp'
    walk_at "r"
    refine ⟨p,_,rfl,SqT.of hp',rfl,?_⟩
    refine ⟨_,_,rfl,_,_,rfl,rfl,?_⟩
    walk_at "r"
    refine ⟨x,y,d1,rfl,q1',q2',List.all_eq_true.mp hsm.2 _ (ax hd1),λH5 s5=>?_⟩
    refine ⟨_,s5 _ _ h3',by rw [af,eL];exact jg (),_,_,rfl,?_,λc o hc n=>by rw [j6 n];exact s5 _ _ (e3' c o hc n)⟩
    rw [j5,mV,aB]
    rfl
   ·rintro σ H2 ⟨v1,v2,rfl,h3,e3⟩
    refine ⟨acc,_,rfl,SqL.of h3,?_⟩
    have e:((df va.length true).all λb=>b)=true:=by
     rw [bI]
     intro x hx
     exact (List.mem_replicate.mp hx).2
    rw [e]
    exact k H2 λc o hc=>e3 c o hc (j1 hc hacc)
  | _=>cases hx
noncomputable def vC:Sp:=λvs H Q _=>∃(L b:Addr) (tp sz:Int),vs=[.ref b,.int tp,.int sz]/\qj L H b/\tp<=99/\0<=sz/\sz<=100/\∀p H' (hs:List Int),qj L H' b->Ext b H H'->H p=none->H' p=some (.lst (hs.map V.int))->(hs.length:Int)=sz->(∀x∈hs,0<=x/\x<=99)->Q (.ref p) H'
theorem xf:FnScope ["_law_box_here","_law_top","_law_size","_law_pick","_law_step"] ["_law_box_here","_law_top","_law_size"] (j8 qq):=by walk_at "s"
theorem wu {f:Addr}{fd:FuncData}(nb:Nb2 mg) (c_law_take:Cal P w K mg base 2 "_law_take" ["_law_box_here","_law_size"] xP) (F:Fun K "_law_ground_drawn" "_law_ground_drawn" qq f fd):FnOk P w K mg base CX0 3 f fd ["_law_box_here","_law_top","_law_size"] vC:=by
 refine F.ok xf (λvs H Q E h=>?_) (λcdv A outer s H vs Q E hr h=>?_)
 ·obtain ⟨L,b,tp,sz,rfl,_⟩:=h
  rfl
 ·obtain ⟨L,b,tp,sz,rfl,B,htp,h0,h1,k⟩:=h
  refine ⟨_,(j4 (jt 3 xf.nd (je c_law_take (hr.mono ⋯) rfl (j0 (pv 0) (j0 j7 j2))))
   (j4 (jU (jz y8 (pv 3) j7 (jG _)) (j9 (jk (jY (osc:=(j8 qq)) (ON:=["_law_box_here","_law_top","_law_size","_law_pick","_law_step"]) (N:=["_law_turn","_law_box_here"]) (own:=1) (caps:=[0]) ⟨rfl,∅,∅,∅,rfl,∅⟩ rfl rfl rfl (qh rfl nb.b_range (j0 (pv 2) j2)) (λ_ _ _ _ _=>(jb (i:=0) (show bo (["_law_turn","_law_box_here"]:List Str) by decide +kernel) rfl (aP rfl))) (λ_ _ _ _ _=>jK) (λ_ _ _ _ _=>(je c_law_take (hr.mono ⋯) rfl (j0 (pv 1) (j0 j7 j2))))))) jw)
   (j4 (yW (i:=4) xf.nd rfl (iS rfl) (jq jN j7 (je c_law_take (hr.mono ⋯) rfl (j0 (pv 0) (j0 j7 j2)))))
   (j9 (jk (jY (osc:=(j8 qq)) (ON:=["_law_box_here","_law_top","_law_size","_law_pick","_law_step"]) (N:=["_law_place","_law_top","_law_step"]) (own:=1) (caps:=[1,4]) ⟨rfl,∅,∅,∅,rfl,∅⟩ rfl rfl rfl (qh rfl nb.b_range (j0 (pv 2) j2)) (λ_ _ _ _ _=>(jb (i:=0) (show bo (["_law_place","_law_top","_law_step"]:List Str) by decide +kernel) rfl (aP rfl))) (λ_ _ _ _ _=>jK) (λ_ _ _ _ _=>(jf (yh rfl) rfl nb.b_max oQ (j0 j7 (j0 (jq qG (pv 1) (jq uP (pv 2) (pv 0))) j2)))))))))),?_⟩
  walk_at "r"
  refine ⟨L,b,_,rfl,B,⟨⋯,⋯⟩,λv1 H1 p1 q1 B1 X1=>?_⟩
  walk_at "r"
  refine qC (λ_=>?_) (λ_=>?_)
  ·walk_at "r"
   refine ⟨(),(),λacc hacc=>?_⟩
   have na1:=B1.ne hacc
   have na2:=B1.neL hacc
   refine xn (lo:=0) (n:=sz.toNat) (acc:=acc) (λi σ H2=>∃(x:Option V) (hs:List Int),σ=[x,some (.ref b)]/\qj L H2 b/\H2 acc=some (.lst (hs.map V.int))/\hs.length=i/\(∀x∈hs,0<=x/\x<=99)/\Ext b H1 H2) ?_ ?_ ?_
   ·exact ⟨none,[],rfl,B1.put na1 na2,j5,rfl,(by intro x hx;cases hx),Ext.new hacc⟩
   ·rintro i σ H2 hi ⟨x,hs,rfl,B2,h2,hl,hb,e2⟩
    walk_at "r"
    refine ⟨L,b,_,rfl,B2,⟨⋯,⋯⟩,λv H3 p3 q3 B3 X3=>?_⟩
    have h3:=X3 _ _ h2 na1
    refine ⟨_,h3,by rw [af];exact jg (),_,hs++[v],rfl,B3.put na1 na2,by rw [j5,aB];rfl,by rw [ak,hl];rfl,λx hx=>?_,λc o hc n=>?_⟩
    ·rcases List.mem_append.mp hx with hx | hx
     ·exact hb x hx
     ·have:x=v:=by simpa using hx
      omega
    ·rw [j6 (j1 hc hacc)]
     exact X3 _ _ (e2 c o hc n) n
   ·rintro σ H2 ⟨x,hs,rfl,B2,h2,hl,hb,e2⟩
    exact k acc H2 hs B2 (X1.trans e2) (X1.free hacc na1) h2 () hb
  ·walk_at "r"
   refine ⟨L,b,_,rfl,B1,⟨⋯,⋯⟩,λv2 H2 p2 q2 B2 X2=>?_⟩
   walk_at "r"
   refine ⟨(),(),λacc hacc=>?_⟩
   have na1:=B2.ne hacc
   have na2:=B2.neL hacc
   refine xn (lo:=0) (n:=sz.toNat) (acc:=acc) (λi σ H3=>∃(x:Option V) (hs:List Int),σ=[x,some (.int tp),some (.int (1+v2))]/\qj L H3 b/\H3 acc=some (.lst (hs.map V.int))/\hs.length=i/\(∀x∈hs,0<=x/\x<=99)/\Ext b H2 H3) ?_ ?_ ?_
   ·exact ⟨none,[],rfl,B2.put na1 na2,j5,rfl,(by intro x hx;cases hx),Ext.new hacc⟩
   ·rintro i σ H3 hi ⟨x,hs,rfl,B3,h3,hl,hb,e3⟩
    walk_at "r"
    have hm:(0:Int)<=(1+v2)*(0+(i:Int)):=Int.mul_nonneg () ()
    refine ⟨_,_,rfl,?_⟩
    refine ⟨_,h3,by rw [af];exact jg (),_,hs++[if tp-(1+v2)*(0+(i:Int)) > 0 then tp-(1+v2)*(0+(i:Int)) else 0],rfl,B3.put na1 na2,by rw [j5,aB];rfl,by rw [ak,hl];rfl,λx hx=>?_,λc o hc n=>?_⟩
    ·rcases List.mem_append.mp hx with hx | hx
     ·exact hb x hx
     ·have:x=if tp-(1+v2)*(0+(i:Int)) > 0 then tp-(1+v2)*(0+(i:Int)) else 0:=by simpa using hx
      rw [this]
      split <;> omega
    ·rw [j6 (j1 hc hacc)]
     exact e3 c o hc n
   ·rintro σ H3 ⟨x,hs,rfl,B3,h3,hl,hb,e3⟩
    have hacc1:=X2.free hacc na1
    exact k acc H3 hs B3 ((X1.trans X2).trans e3) (X1.free hacc1 na1) h3 () hb
structure RD (L b tp rw dp:Addr) (H0:Hp):Prop where
 tb:tp≠b
 rb:rw≠b
 db:dp≠b
 tL:tp≠L
 rL:rw≠L
 dL:dp≠L
 tr:tp≠rw
 td:tp≠dp
 rd:rw≠dp
 nt:H0 tp=none
 nr:H0 rw=none
 nd:H0 dp=none
structure RG (L b tp rw dp:Addr) (H0 H:Hp) (ts:List Int) (xs:List V) (rs:List Rch) (ds:List Int):Prop where
 box:qj L H b
 htp:H tp=some (.lst (ts.map V.int))
 hrw:H rw=some (.lst xs)
 hdp:H dp=some (.lst (ds.map V.int))
 rows:qc H xs rs
 ext:Ext b H0 H
section
variable {L b tp rw dp:Addr}{H0 H H':Hp}{ts ds:List Int}{xs:List V}{rs:List Rch}
theorem RG.take (D:RD L b tp rw dp H0) (G:RG L b tp rw dp H0 H ts xs rs ds) (B:qj L H' b) (X:Ext b H H'):RG L b tp rw dp H0 H' ts xs rs ds :=
 ⟨B,X _ _ G.htp D.tb,X _ _ G.hrw D.rb,X _ _ G.hdp D.db,G.rows.keep (by obtain ⟨ns,a,r,c,d,h1,_⟩:=G.box;exact jj.lst X h1),G.ext.trans X⟩
theorem RG.same (G:RG L b tp rw dp H0 H ts xs rs ds) (s:jn H H'):RG L b tp rw dp H0 H' ts xs rs ds :=
 ⟨G.box.same s,s _ _ G.htp,s _ _ G.hrw,s _ _ G.hdp,G.rows.keep (jj.same s),G.ext.trans (Ext.of_same s)⟩
theorem RG.extN {a:Addr}(G:RG L b tp rw dp H0 H ts xs rs ds) (hn:H a=none) (e:Ext a H H'):RG L b tp rw dp H0 H' ts xs rs ds:=G.same λc o h=>e c o h (j1 h hn)
theorem RG.putT (D:RD L b tp rw dp H0) (G:RG L b tp rw dp H0 H ts xs rs ds) (ts':List Int):RG L b tp rw dp H0 (upd H tp (.lst (ts'.map V.int))) ts' xs rs ds :=
 ⟨G.box.put D.tb D.tL,j5,by rw [j6 D.tr.symm];exact G.hrw,by rw [j6 D.td.symm];exact G.hdp,G.rows.keep (jj.lst Ext.put G.htp),λc o h n=>by rw [j6 (j1 h D.nt)];exact G.ext c o h n⟩
theorem RG.putR (D:RD L b tp rw dp H0) (G:RG L b tp rw dp H0 H ts xs rs ds) {v:V}{r:Rch}(q:Q3 H v r):RG L b tp rw dp H0 (upd H rw (.lst (xs++[v]))) ts (xs++[v]) (rs++[r]) ds :=
 ⟨G.box.put D.rb D.rL,by rw [j6 D.tr];exact G.htp,j5,by rw [j6 D.rd.symm];exact G.hdp,(G.rows.snoc q).keep (jj.lst Ext.put G.hrw),λc o h n=>by rw [j6 (j1 h D.nr)];exact G.ext c o h n⟩
theorem RG.putD (D:RD L b tp rw dp H0) (G:RG L b tp rw dp H0 H ts xs rs ds) (ds':List Int):RG L b tp rw dp H0 (upd H dp (.lst (ds'.map V.int))) ts xs rs ds' :=
 ⟨G.box.put D.db D.dL,by rw [j6 D.td];exact G.htp,by rw [j6 D.rd];exact G.hrw,j5,G.rows.keep (jj.lst Ext.put G.hdp),λc o h n=>by rw [j6 (j1 h D.nd)];exact G.ext c o h n⟩
end
noncomputable def xM (rs:List Rch):List Int:=(aG rs.length).map λi=>jB rs (qA rs i)
theorem QK {rs:List Rch}{t:Int}{hs:List Int}(G:Grown rs) (h0:0<=t) (h1:t<rs.length) (hx:okR rs.length (t,hs)=true):xM (rs++[(t,hs)])=xM rs++[jB rs (qA rs t.toNat)+hs.length]:=by
 have Ld:=qk G.ok
 unfold xM
 rw [ak,bg,ck,aB]
 congr 1
 ·apply dH
  intro i hi
  have hi':=List.mem_range.mp hi
  rw [vh Ld hi',xX _ (xZ Ld i hi')]
 ·show [jB (rs++[(t,hs)]) (qA (rs++[(t,hs)]) rs.length)]=[_]
  rw [G.deep_snoc h0 h1 hx]
theorem Yj {rs:List Rch}{t:Int}(h0:0<=t) (h1:t<rs.length):atI ((xM rs).map V.int) t=some (.int (jB rs (qA rs t.toNat))):=by
 refine qS h0 ?_
 unfold xM
 rw [av,av,dI ()]
 rfl
theorem Uz {i:Nat}{t sz:Int}{hs:List Int}(hi:0<i) (h0:0<=t) (h1:t<i) (hl:(hs.length:Int)=sz) (hz0:1<=sz) (hz1:sz<=12) (hb:∀x∈hs,0<=x/\x<=99):okR i (t,hs)=true:=by
 unfold okR xI
 rw [if_neg (),decide_eq_true (show 0<=t/\t<(i:Int) from ⟨h0,h1⟩),decide_eq_true (show 1<=(hs.length:Int)/\(hs.length:Int)<=12 by omega),eJ,eJ,bI]
 intro x hx
 exact decide_eq_true (hb x hx)
noncomputable def wQ:Sp:=λvs H Q _=>∃(L b:Addr),vs=[.ref b]/\qj L H b/\∀p H' xs rs,qj L H' b->Ext b H H'->H p=none->H' p=some (.lst xs)->qc H' xs rs->Grown rs->1<=rs.length->rs.length<=8->Q (.ref p) H'
theorem jI:FnScope ["_law_box_here","_law_tops","_law_sizes","_law_rows","_law_deep","_law_number","_law_to","_law_led","_law_heads","_law_size"] ["_law_box_here"] (j8 xj):=by walk_at "s"
theorem Wx {v:Int}(a:0<=v) (b:v<3):∃n,atI [V.int 1,V.int 3,V.int 8] v=some (V.int n)/\0<n/\n<=8:=by
 have h:v=0\/v=1\/v=2:=()
 rcases h with rfl | rfl | rfl
 ·exact ⟨1,rfl,(),()⟩
 ·exact ⟨3,rfl,(),()⟩
 ·exact ⟨8,rfl,(),()⟩
theorem XZ {f:Addr}{fd:FuncData}(nb:Nb2 mg) (c_law_take:Cal P w K mg base 2 "_law_take" ["_law_box_here","_law_size"] xP) (c_law_ground_drawn:Cal P w K mg base 3 "_law_ground_drawn" ["_law_box_here","_law_top","_law_size"] vC) (F:Fun K "_law_reaches" "_law_reaches" xj f fd):FnOk P w K mg base CX0 4 f fd ["_law_box_here"] wQ:=by
 refine F.ok jI (λvs H Q E h=>?_) (λcdv A outer s H vs Q E hr h=>?_)
 ·obtain ⟨L,b,rfl,_⟩:=h
  rfl
 ·obtain ⟨L,b,rfl,B,k⟩:=h
  refine ⟨_,(j4 (jt 1 jI.nd (jL (j0 (jq jN j7 (je c_law_take (hr.mono ⋯) rfl (j0 (pv 0) (j0 j7 j2)))) j2)))
   (j4 (jt 2 jI.nd (jL (j0 (jq jN j7 (je c_law_take (hr.mono ⋯) rfl (j0 (pv 0) (j0 j7 j2)))) j2)))
   (j4 (jt 3 jI.nd (jL (j0 (jS (j0 (jq qG j7 j7) (j0 (qI (zt K) rfl nb.b_tuple cQ (j0 (je c_law_ground_drawn (hr.mono ⋯) rfl (j0 (pv 0) (j0 (jo (jd K) (pv 1) j7 (λ_ _=>rfl)) (j0 (jo (jd K) (pv 2) j7 (λ_ _=>rfl)) j2)))) j2)) j2))) j2)))
   (j4 (jt 4 jI.nd (jL (j0 (jo (jd K) (pv 2) j7 (λ_ _=>rfl)) j2)))
   (j4 (qt aV rfl (Jk rfl nb.b_range (j0 j7 (j0 (jq jN j7 (je c_law_take (hr.mono ⋯) rfl (j0 (pv 0) (j0 (jo (jd K) (jL (j0 j7 (j0 j7 (j0 j7 j2)))) (je c_law_take (hr.mono ⋯) rfl (j0 (pv 0) (j0 j7 j2))) (λ_ _=>rfl)) j2)))) j2))) (jb (i:=5) jI.nd rfl (aP rfl)) (j4 (jt 6 jI.nd (je c_law_take (hr.mono ⋯) rfl (j0 (pv 0) (j0 (pv 5) j2))))
   (j4 (yW (i:=7) jI.nd rfl (iS rfl) (jY (osc:=(j8 xj)) (ON:=["_law_box_here","_law_tops","_law_sizes","_law_rows","_law_deep","_law_number","_law_to","_law_led","_law_heads","_law_size"]) (N:=["_law_row_here"]) (own:=1) (caps:=[]) ⟨rfl,∅,∅,∅,rfl,∅⟩ rfl rfl rfl (jP K (pv 3)) (λ_ _ _ _ _=>(jb (i:=0) (show bo (["_law_row_here"]:List Str) by decide +kernel) rfl (aP rfl))) (λ_ _ _ _ _=>jK) (λ_ _ _ _ _=>(jo (qo K) (pv 0) j7 (λ_ _=>rfl)))))
   (j4 (jt 8 jI.nd (jf (jh K) rfl nb.b_len aT (j0 (jY (osc:=(j8 xj)) (ON:=["_law_box_here","_law_tops","_law_sizes","_law_rows","_law_deep","_law_number","_law_to","_law_led","_law_heads","_law_size"]) (N:=["_law_one","_law_led"]) (own:=1) (caps:=[7]) ⟨rfl,∅,∅,∅,rfl,∅⟩ rfl rfl rfl (qh rfl nb.b_range (j0 (pv 5) j2)) (λ_ _ _ _ _=>(jb (i:=0) (show bo (["_law_one","_law_led"]:List Str) by decide +kernel) rfl (aP rfl))) (λ_ _ _ _ _=>(yQ (jz (xN K) (pv 0) (pv 1) (by with_unfolding_all rfl)))) (λ_ _ _ _ _=>(pv 0))) j2)))
   (JL (jU (PW.pt (JQ (jz y8 (pv 8) j7 (jG _)) (JW (jz (XA K) (pv 6) (pv 7) (by with_unfolding_all rfl))))) (j9 (jt 6 jI.nd (jq qG (pv 5) j7))) jw)
   (j9 (jU (jz vw (jo (jd K) (pv 4) (pv 6) (λ_ _=>rfl)) j7 (jG _)) (j4 (jt 9 jI.nd (jq jN j7 (je c_law_take (hr.mono ⋯) rfl (j0 (pv 0) (j0 (jf (vo rfl) rfl nb.b_min rZ (j0 j7 (j0 (jq qG j7 (jo (jd K) (pv 4) (pv 6) (λ_ _=>rfl))) j2))) j2)))))
   (j4 (jM (xu K aX aZ b7 jZ (pv 1) (j0 (jf (vo rfl) rfl nb.b_min rZ (j0 j7 (j0 (jq jN (jo (jd K) (pv 1) (pv 6) (λ_ _=>rfl)) (je c_law_take (hr.mono ⋯) rfl (j0 (pv 0) (j0 j7 j2)))) j2))) j2)))
   (j4 (jM (xu K aX aZ b7 jZ (pv 3) (j0 (jS (j0 (pv 6) (j0 (qI (zt K) rfl nb.b_tuple cQ (j0 (je c_law_ground_drawn (hr.mono ⋯) rfl (j0 (pv 0) (j0 (jo (jd K) (pv 1) (zX xJ j7) (λ_ _=>rfl)) (j0 (pv 9) j2)))) j2)) j2))) j2)))
   (j9 (jM (xu K aX aZ b7 jZ (pv 4) (j0 (jq jN (jo (jd K) (pv 4) (pv 6) (λ_ _=>rfl)) (pv 9)) j2))))))) (j9 (jk (pv 3))))))))))
   (j9 (jk (pv 3)))))))),?_⟩
  walk_at "r"
  refine ⟨L,b,_,rfl,B,⟨⋯,⋯⟩,λv1 H1 p1 q1 B1 X1=>?_⟩
  walk_at "r"
  refine ⟨by show 1<=sizeLine;decide,λtp H2 htp htp2 s2=>?_⟩
  have B2:=B1.same s2
  walk_at "r"
  refine ⟨L,b,_,rfl,B2,⟨⋯,⋯⟩,λv2 H3 p3 q3 B3 X3=>?_⟩
  have tb:=B1.ne htp
  have tL:=B1.neL htp
  walk_at "r"
  refine ⟨by show 1<=sizeLine;decide,λsz H4 hsz hsz4 s4=>?_⟩
  have B4:=B3.same s4
  have htp4:=s4 _ _ (X3 _ _ htp2 tb)
  walk_at "r"
  refine ⟨L,b,20+v1,1+v2,rfl,B4,(),(),(),λgl H5 hs B5 X5 hgl hgl5 hl hb=>?_⟩
  have szb:=B3.ne hsz
  have htp5:=X5 _ _ htp4 tb
  have hsz5:=X5 _ _ hsz4 szb
  refine ⟨gl,_,rfl,SqL.of hgl5,λgt H6 hgt hgt6 s6=>?_⟩
  refine ⟨by show 2<=sizeLine;decide,λrt H7 hrt hrt7 s7=>?_⟩
  refine ⟨by show 1<=sizeLine;decide,λrw H8 hrw hrw8 s8=>?_⟩
  have B8:=((B5.same s6).same s7).same s8
  have sm58:jn H5 H8:=(s6.trans s7).trans s8
  have hsz8:=sm58 _ _ hsz5
  have htp8:=sm58 _ _ htp5
  have hrw5:H5 rw=none:=(s6.trans s7).free hrw
  have B7:=(B5.same s6).same s7
  have rb:=B7.ne hrw
  have rL:=B7.neL hrw
  have tr:tp≠rw:=j1 ((s6.trans s7) _ _ htp5) hrw
  walk_at "r"
  refine ⟨by show 1<=sizeLine;decide,λdp H9 hdp hdp9 s9=>?_⟩
  have db:=B8.ne hdp
  have dL:=B8.neL hdp
  have td:tp≠dp:=j1 htp8 hdp
  have rd:rw≠dp:=j1 hrw8 hdp
  have nz:∀a,H8 a=none->a≠b->a≠L->H a=none:=λa ha ab aL=>by
   have a5:=sm58.free ha
   have a4:=X5.free a5 ab
   exact X1.free (s2.free (X3.free (s4.free a4) ab)) ab
  have nt:H tp=none:=X1.free htp tb
  have nr:H rw=none:=X1.free (s2.free (X3.free (s4.free (X5.free hrw5 rb)) rb)) rb
  have nd:H dp=none:=nz dp hdp db dL
  have D:RD L b tp rw dp H:=⟨tb,rb,db,tL,rL,dL,tr,td,rd,nt,nr,nd⟩
  have ok0:uG [((0-1:Int),hs)]=true:=by
   unfold uG okR xI
   simp only [bg,List.range_one,nv,List.all_nil,Bool.and_true]
   show (decide ((0-1:Int) = -1) && decide (1<=(hs.length:Int)/\(hs.length:Int)<=12) && hs.all λx=>decide (0<=x/\x<=99))=true
   rw [decide_eq_true (show 1<=(hs.length:Int)/\(hs.length:Int)<=12 by omega),bf,bI]
   exact ⟨rfl,λx hx=>decide_eq_true (hb x hx)⟩
  have rd0:qA [((0-1:Int),hs)] 0=[0]:=rfl
  have pl0:jB [((0-1:Int),hs)] [0]=hs.length:=by unfold jB;simp [zN]
  have G0:Grown [((0-1:Int),hs)]:=by
   refine ⟨ok0,aF (bN _ _) (by simp),λi hi=>?_⟩
   have:i=0:=by simp at hi;exact hi
   subst this
   rw [rd0,pl0]
   omega
  have ext8:Ext b H H8:=((((X1.trans (Ext.of_same s2)).trans X3).trans (Ext.of_same s4)).trans X5).trans (Ext.of_same sm58)
  have RG0:RG L b tp rw dp H H9 [20+v1] [.ref rt] [((0-1:Int),hs)] (xM [((0-1:Int),hs)]):=by
   refine ⟨B8.same s9,s9 _ _ htp8,s9 _ _ hrw8,?_,.cons ⟨rt,gt,rfl,s9 _ _ (s8 _ _ hrt7),s9 _ _ (s8 _ _ (s7 _ _ hgt6))⟩ .nil,ext8.trans (Ext.of_same s9)⟩
   rw [hdp9]
   show some (HO.lst [V.int (1+v2)])=some (.lst [V.int (jB [((0-1:Int),hs)] (qA [((0-1:Int),hs)] 0))])
   rw [rd0,pl0,hl]
  walk_at "r"
  refine ⟨by show 3<=sizeLine;decide,λq3' H10 hq hq10 s10=>?_⟩
  have RG1:=RG0.same s10
  walk_at "r"
  refine ⟨L,b,_,rfl,RG1.box,⟨⋯,⋯⟩,λv3 H11 p11 q11 B11 X11=>?_⟩
  have RG2:=RG1.take D B11 X11
  have hq11:=X11 _ _ hq10 (RG0.box.ne hq)
  obtain ⟨n,hn,n0,n8⟩:=Wx p11 q11
  refine ⟨_,_,_,_,rfl,rfl,SqL.of hq11,hn,?_⟩
  refine ⟨L,b,_,rfl,B11,⟨n0,()⟩,λv4 H12 p12 q12 B12 X12=>?_⟩
  have RG3:=RG2.take D B12 X12
  walk_at "r"
  refine ⟨1,1+v4,rfl,⟨(),(),(),()⟩,?_⟩
  have ht99:∀t∈[20+v1],t<=99:=λt ht=>by
   have:t=20+v1:=by simpa using ht
   omega
  have done:∀(H':Hp) ts xs rs ds,RG L b tp rw dp H H' ts xs rs ds->Grown rs->1<=rs.length->rs.length<=8->Q (.ref rw) H':=λH' ts xs rs ds G gr h1 h8=>k rw H' xs rs G.box G.ext nr G.hrw G.rows gr h1 h8
  refine qR (lo:=1) (n:=(1+v4-1).toNat) (λi σ H'=>∃(v5 v6 v7 v8 v9:Option V) (ts:List Int) (xs:List V) (rs:List Rch),σ=[some (.ref b),some (.ref tp),some (.ref sz),some (.ref rw),some (.ref dp),v5,v6,v7,v8,v9]/\RG L b tp rw dp H H' ts xs rs (xM rs)/\Grown rs/\rs.length=i+1/\ts.length=i+1/\∀t∈ts,t<=99) ⟨_,_,_,_,_,_,_,_,rfl,RG3,G0,rfl,rfl,ht99⟩ ?_ ?_
  ·rintro i σ H' hi ⟨v5,v6,v7,v8,v9,ts,xs,rs,rfl,G,gr,hrl,htl,htb⟩
   have Ld:=qk gr.ok
   have hxl:=G.rows.length
   walk_at "r"
   refine ⟨L,b,_,rfl,G.box,⟨(),()⟩,λt Ha ha0 ha1 Ba Xa=>?_⟩
   have Ga:=G.take D Ba Xa
   walk_at "r"
   refine ⟨⟨_,SqL.of Ga.hrw⟩,λld hld=>?_⟩
   refine qp (K:=K) (a:=rw) (xs:=xs) (acc:=ld) (λj σ H2=>∃x:Option V,σ=[x]/\H2 ld=some (.lst (((rs.take j).map (·.1)).map V.int))/\Ext ld Ha H2) ?_ ?_ ?_ ?_
   ·exact ⟨none,rfl,j5,Ext.put⟩
   ·rintro j σ H2 hj ⟨x,rfl,h3,e3⟩
    exact SqL.of (e3 _ _ Ga.hrw (j1 Ga.hrw hld))
   ·rintro j v σ H2 hv ⟨x,rfl,h3,e3⟩
    obtain ⟨r,hr,q,g,rfl,hq,hg⟩:=(Ga.rows.keep (jj.new e3 hld)).get hv
    have hj:j<rs.length:=(List.getElem?_eq_some_iff.mp hr).1
    walk_at "r"
    refine ⟨_,h3,by rw [af,af,aJ];exact jg (),_,rfl,?_,e3.trans Ext.put⟩
    rw [j5,qH (λr:Rch=>r.1) rs j r hr,aB]
    rfl
   ·rintro σ H2 ⟨x,rfl,h3,e3⟩
    rw [hxl,aW] at h3
    have Gb:=Ga.extN hld e3
    walk_at "r"
    refine ⟨(),(),λhd hhd=>?_⟩
    have en:(1+(i:Int)).toNat=rs.length:=()
    refine xn (lo:=0) (n:=(1+(i:Int)).toNat) (acc:=hd) (λj σ H3=>∃(x:Option V) (vs:List V),σ=[x,some (.ref ld)]/\H3 hd=some (.lst vs)/\vs.length=((aG j).filter (jQ rs)).length/\Ext hd H2 H3) ?_ ?_ ?_
    ·exact ⟨none,[],rfl,j5,rfl,Ext.put⟩
    ·rintro j σ H3 hj ⟨x,vs,rfl,h4,l4,e4⟩
     have er:((aG (j+1)).filter (jQ rs)).length=((aG j).filter (jQ rs)).length+(if jQ rs j=true then 1 else 0):=by
      rw [ck,bK,ak]
      congr 1
      by_cases z:jQ rs j=true
      ·rw [if_pos z];simp [z]
      ·rw [if_neg z];simp [z]
     have hfl:((aG j).filter (jQ rs)).length<=j:=aF (bN _ _) (by rw [br];exact aq _)
     walk_at "r"
     refine ⟨ld,_,rfl,.inl (SqL.of (e4 _ _ h3 (j1 h3 hhd))),rfl,ya _,?_⟩
     walk_at "r"
     rw [eA,yS]
     refine y3 (λhin=>?_) (λhin=>?_)
     ·have hb:jQ rs j=true:=by unfold jQ;rw [decide_eq_false (show ¬(j:Int)∈tos rs from hin)];rfl
      walk_at "r"
      refine ⟨vs,h4,jg (),_,_,rfl,j5,?_,e4.trans Ext.put⟩
      rw [ak,bg,er,if_pos hb,l4]
     ·have hb:¬jQ rs j=true:=by unfold jQ;rw [decide_eq_true (show (j:Int)∈tos rs from hin)];exact au
      exact ⟨_,vs,rfl,h4,by rw [er,if_neg hb,l4,Nat.add_zero],e4⟩
    ·rintro σ H3 ⟨x,vs,rfl,h4,l4,e4⟩
     have Gc:=Gb.extN hhd e4
     have hld4:=e4 _ _ h3 (j1 h3 hhd)
     rw [en] at l4
     have l4':vs.length=(js rs).length:=l4
     refine ⟨_,_,rfl,.inl (SqL.of h4),?_⟩
     refine ⟨λσ H5=>∃t':Int,σ=[some (.ref b),some (.ref tp),some (.ref sz),some (.ref rw),some (.ref dp),some (.int (1+(i:Int))),some (.int t'),some (.ref ld),some (.int vs.length),v9]/\H5=H3/\0<=t'/\t'<rs.length/\(t'∈tos rs->(js rs).length<6),?_,?_⟩
     ·have hh:=gr.heads
      walk_at "r"
      refine qC (λh6=>?_) (λh6=>?_)
      ·walk_at "r"
       refine ⟨ld,_,rfl,.inl (SqL.of hld4),rfl,ya _,?_⟩
       walk_at "r"
       rw [yS]
       refine qC (λhin=>?_) (λhin=>?_)
       ·walk_at "r"
        refine ⟨(),(),λz=>?_⟩
        have:=XG Ld z
        omega
       ·exact ⟨t,rfl,rfl,ha0,(),λz=>absurd z hin⟩
      ·have:(js rs).length<6:=by
        have:(vs.length:Int)≠6:=λz=>h6 (by rw [z])
        omega
       exact ⟨t,rfl,rfl,ha0,(),λ_=>this⟩
     ·rintro σ H5 ⟨t',rfl,rfl,t0,t1,th⟩
      have hde:=Yj t0 t1
      walk_at "r"
      refine ⟨_,_,_,_,rfl,rfl,SqL.of Gc.hdp,hde,?_⟩
      walk_at "r"
      refine qC (λh30=>?_) (λh30=>?_)
      ·have hdp0:=gr.deep t'.toNat ()
       generalize hdt:jB rs (qA rs t'.toNat)=dt at hde h30 hdp0
       walk_at "r"
       refine ⟨_,_,_,_,rfl,rfl,SqL.of Gc.hdp,hde,?_⟩
       walk_at "r"
       refine ⟨_,_,rfl,?_⟩
       refine ⟨L,b,_,rfl,Gc.box,⟨by split <;> omega,by split <;> omega⟩,λv5' H6 p6 q6 B6 X6=>?_⟩
       have Gd:=Gc.take D B6 X6
       have hz12:1+v5'<=12/\dt+(1+v5')<=30:=by
        have q6':=q6
        split at q6' <;> omega
       walk_at "r"
       refine ⟨.inl ⟨rfl,_,SqL.of Gd.htp⟩,?_⟩
       walk_at "r"
       have hti:t'.toNat<ts.length:=()
       refine ⟨_,_,_,_,rfl,rfl,SqL.of Gd.htp,qS t0 (by rw [av,aa hti];rfl),?_⟩
       walk_at "r"
       refine ⟨L,b,_,rfl,Gd.box,⟨⋯,⋯⟩,λv6' H7 p7 q7 B7 X7=>?_⟩
       have Ge:=Gd.take D B7 X7
       walk_at "r"
       refine ⟨_,_,rfl,?_⟩
       generalize hnew:(if ts[t'.toNat]'hti+v6'<99 then ts[t'.toNat]'hti+v6' else 99)=new
       have hnew99:new<=99:=by rw [<- hnew];split <;> omega
       walk_at "r"
       refine ⟨tp,_,_,rfl,rfl,Ge.htp,by rw [af];exact jg (),?_⟩
       have Gf:RG L b tp rw dp H (upd H7 tp (.lst (ts.map V.int++[V.int new]))) (ts++[new]) xs rs (xM rs):=by
        have:=Ge.putT D (ts++[new])
        rw [aB] at this
        exact this
       walk_at "r"
       refine ⟨.inl ⟨rfl,_,SqL.of Gf.hrw⟩,?_⟩
       walk_at "r"
       refine ⟨_,_,_,_,rfl,rfl,SqL.of j5,yU _ _,?_⟩
       walk_at "r"
       refine ⟨L,b,new,1+v5',rfl,Gf.box,hnew99,(),(),λgl' H8 hs' B8' X8 hgl' hgl8 hl' hb'=>?_⟩
       have Gg:=Gf.take D B8' X8
       refine ⟨gl',_,rfl,SqL.of hgl8,λgt' H9' hgt' hgt9 s9'=>?_⟩
       refine ⟨by show 2<=sizeLine;decide,λrt' H10' hrt' hrt10 s10'=>?_⟩
       have Gh:=(Gg.same s9').same s10'
       walk_at "r"
       refine ⟨rw,_,_,rfl,rfl,Gh.hrw,jg (),?_⟩
       have okn:okR rs.length (t',hs')=true:=Uz () t0 t1 hl' () () hb'
       have Gi:=Gh.putR D (v:=.ref rt') (r:=(t',hs')) ⟨rt',gt',rfl,hrt10,s10' _ _ hgt9⟩
       walk_at "r"
       refine ⟨.inl ⟨rfl,_,SqL.of Gi.hdp⟩,?_⟩
       walk_at "r"
       refine ⟨_,_,_,_,rfl,rfl,SqL.of Gi.hdp,hde,?_⟩
       walk_at "r"
       have hdl:(xM rs).length=rs.length:=by unfold xM;simp
       refine ⟨dp,_,_,rfl,rfl,Gi.hdp,by rw [af];exact jg (),?_⟩
       have Gj:RG L b tp rw dp H (upd (upd H10' rw (.lst (xs++[.ref rt']))) dp (.lst ((xM rs).map V.int++[V.int (dt+(1+v5'))]))) (ts++[new]) (xs++[.ref rt']) (rs++[(t',hs')]) (xM (rs++[(t',hs')])):=by
        have:=Gi.putD D (xM rs++[dt+(1+v5')])
        rw [aB] at this
        rw [QK gr t0 t1 okn,hdt,hl']
        exact this
       refine ⟨_,_,_,_,_,_,_,_,rfl,Gj,gr.snoc t0 t1 okn th (by rw [hdt];omega),by rw [ak,hrl];rfl,by rw [ak,htl];rfl,λt ht=>?_⟩
       rcases List.mem_append.mp ht with ht | ht
       ·exact htb t ht
       ·have:t=new:=by simpa using ht
        omega
      ·walk_at "r"
       exact done _ _ _ _ _ Gc gr () ()
  ·rintro σ H' ⟨v5,v6,v7,v8,v9,ts,xs,rs,rfl,G,gr,hrl,htl,htb⟩
   walk_at "r"
   exact done _ _ _ _ _ G gr () ()
noncomputable def Yz (t:TE):Prop:=∀σ H Q Q',(∀v H,Q v H->Q' v H)->t σ H Q->t σ H Q'
noncomputable def Vf (r:R2):Prop:=∀x y H Q Q',(∀v H,Q v H->Q' v H)->r x y H Q->r x y H Q'
theorem Zx (i:Nat):Yz (Zd i):=λ_ _ _ _ h ⟨v,e,q⟩=>⟨v,e,h _ _ q⟩
theorem Zw (v:V):Yz (tC v):=λ_ _ _ _ h q=>h _ _ q
theorem wS {r:R2}{ta tb:TE}(hr:Vf r) (ha:Yz ta) (hb:Yz tb):Yz (tOp r ta tb):=λσ H Q Q' h q=>ha σ H _ _ (λx H1 q1=>hb σ H1 _ _ (λy H2 q2=>hr x y H2 _ _ h q2) q1) q
theorem Zo (K:ah):Vf (WH K):=λ_ _ _ _ _ h ⟨a,xs,i,v,e1,e2,e3,e4,q⟩=>⟨a,xs,i,v,e1,e2,e3,e4,h _ _ q⟩
theorem Uv (K:ah):Vf (Gq K):=λ_ _ _ _ _ h ⟨a,xs,i,v,e1,e2,e3,e4,q⟩=>⟨a,xs,i,v,e1,e2,e3,e4,h _ _ q⟩
theorem WM (g:Int->Int->V):Vf (rI0 g):=λ_ _ _ _ _ h ⟨i,j,e1,e2,q⟩=>⟨i,j,e1,e2,h _ _ q⟩
theorem Wm:Vf rNe:=λ_ _ _ _ _ h ⟨e,q⟩=>⟨e,h _ _ q⟩
theorem Vt {t:TE}(ht:Yz t):∀σ H Q Q',(∀b H1,Q b H1->Q' b H1)->Qm t σ H Q->Qm t σ H Q':=λσ H Q Q' h q=>ht σ H _ _ (λ_ _ ⟨k,e,q⟩=>⟨k,e,h _ _ q⟩) q
theorem Xf {α:Type}{x:α}{l:List α}:atI (x::l) 0=some x:=zK (j:=0) rfl
noncomputable def ur (fd:Addr) (H:Hp) (vs:List V) (rows:List (List Int)):Prop:=cG (λv (r:List Int)=>∃a,v=V.ref a/\a≠fd/\H a=some (.lst (r.map V.int))) vs rows
theorem ur.ext {fd:Addr}{H H':Hp}{vs:List V}{rows:List (List Int)}(h:ur fd H vs rows) (e:Ext fd H H'):ur fd H' vs rows:=Paired.mapP h λ_ _ ⟨a,e1,n,q⟩=>⟨a,e1,n,e _ _ q n⟩
theorem ur.rowsI {fd:Addr}{H:Hp}{vs:List V}{rows:List (List Int)}(h:ur fd H vs rows):yD H vs rows:=Paired.mapP h λ_ _ ⟨a,e1,n,q⟩=>⟨a,e1,q⟩
theorem kZ {H:Hp}{vs:List V}{ws:List (List Int)}(h:yD H vs ws):∀ix:List Nat,(∀i∈ix,i<vs.length)->yD H (ix.map λi=>vs.getD i V.non) (ix.map λi=>ws.getD i [])
 | [],_=>.nil
 | i::ix,hb=>by
  refine .cons ?_ (kZ h ix λj hj=>hb j (aE _ hj))
  have hi:=hb i aI
  obtain ⟨y,e2,a,e3,e4⟩:=Paired.get h (aa hi)
  refine ⟨a,?_,?_⟩
  ·show vs.getD i V.non=V.ref a
   rw [ao,aa hi];exact e3
  ·show H a=some (.lst ((ws.getD i []).map V.int))
   rw [ao,e2];exact e4
noncomputable def Qz (K:ah):Sp:=λvs H Q _=>∃(p:Addr) (xs:List V) (rs:List Rch),vs=[.ref p]/\H p=some (.lst xs)/\qc H xs rs/\xq rs/\rs.length<=60/\∀l H' out ws,H l=none->H' l=some (.lst out)->yD H' out ws->qf rs ws->jn H H'->Q (.ref l) H'
theorem x3:FnScope ["_law_reaches_here","_law_led","_law_found","_law_head","_law_road"] ["_law_reaches_here"] (j8 xV):=by walk_at "s"
theorem Vg {f:Addr}{fd:FuncData}(nb:Nb2 mg) (F:Fun K "_law_roads" "_law_roads" xV f fd):FnOk P w K mg base CX0 1 f fd ["_law_reaches_here"] (Qz K):=by
 refine F.ok x3 (λvs H Q E h=>?_) (λcdv A outer s H vs Q E hr h=>?_)
 ·obtain ⟨p,xs,rs,rfl,_⟩:=h
  rfl
 ·obtain ⟨p,xs,rs,rfl,hp,hrw,L,h60,k⟩:=h
  have hlen:=hrw.length
  refine ⟨_,(j4 (ZQ (j:=1) (osc:=(j8 xV)) (ON:=["_law_reaches_here","_law_led","_law_found","_law_head","_law_road"]) (N:=["_law_to","_law_ground_here"]) (own:=2) (caps:=[]) ⟨rfl,∅,∅,∅,rfl,∅⟩ x3.nd rfl (aP rfl) rfl rfl rfl (jP K (pv 0)) (λ_ _ _ _ _=>(qv (n:=2) K rfl (jm (jb (i:=0) (show bo (["_law_to","_law_ground_here"]:List Str) by decide +kernel) rfl (aP rfl)) (jm (jb (i:=1) (show bo (["_law_to","_law_ground_here"]:List Str) by decide +kernel) rfl (aP rfl)) qw)))) (λ_ _ _ _ _=>jK) (λ_ _ _ _ _=>(pv 0)))
   (j4 (jt 2 x3.nd (jL j2))
   (j4 (qt aV rfl (qh rfl nb.b_range (j0 (jf (jh K) rfl nb.b_len aT (j0 (pv 0) j2)) j2)) (jb (i:=3) x3.nd rfl (aP rfl)) (j9 (jU (jz (xN K) (pv 3) (pv 1) (by with_unfolding_all rfl)) (j4 (jt 4 x3.nd (jL (j0 (pv 3) j2)))
   (j4 (Qx aV (jz VH (jo (qo K) (jo (jd K) (pv 0) (jo (jd K) (pv 4) j7 (λ_ _=>rfl)) (λ_ _=>rfl)) j7 (λ_ _=>rfl)) (jq qG j7 j7) (jG _)) (j9 (jt 4 x3.nd (jq Uh (jL (j0 (jo (qo K) (jo (jd K) (pv 0) (jo (jd K) (pv 4) j7 (λ_ _=>rfl)) (λ_ _=>rfl)) j7 (λ_ _=>rfl)) j2)) (pv 4)))))
   (j9 (jM (xu K aX aZ b7 jZ (pv 2) (j0 (pv 4) j2)))))) jw)))
   (j9 (jk (jY (osc:=(j8 xV)) (ON:=["_law_reaches_here","_law_led","_law_found","_law_head","_law_road"]) (N:=["_law_road"]) (own:=1) (caps:=[]) ⟨rfl,∅,∅,∅,rfl,∅⟩ rfl rfl rfl (jP K (jf (gA K hr.units) rfl nb.b_sorted pM (j0 (pv 2) j2))) (λ_ _ _ _ _=>(jb (i:=0) (show bo (["_law_road"]:List Str) by decide +kernel) rfl (aP rfl))) (λ_ _ _ _ _=>jK) (λ_ _ _ _ _=>(UW K (pv 0))))))))),?_⟩
  walk_at "r"
  refine ⟨⟨_,SqL.of hp⟩,λen hen=>?_⟩
  refine qp (K:=K) (a:=p) (xs:=xs) (acc:=en) (λj σ H2=>∃x y:Option V,σ=[x,y]/\H2 en=some (.lst (((rs.take j).map (·.1)).map V.int))/\Ext en H H2) ?_ ?_ ?_ ?_
  ·exact ⟨none,none,rfl,j5,Ext.put⟩
  ·rintro j σ H2 hj ⟨x,y,rfl,h3,e3⟩
   exact SqL.of (e3 _ _ hp (j1 hp hen))
  ·rintro j v σ H2 hv ⟨x,y,rfl,h3,e3⟩
   obtain ⟨r,hr,q,g,rfl,hq,hg⟩:=(hrw.keep (jj.new e3 hen)).get hv
   have hj:j<rs.length:=(List.getElem?_eq_some_iff.mp hr).1
   walk_at "r"
   refine ⟨q,_,rfl,SqT.of hq,rfl,?_⟩
   refine ⟨_,_,rfl,_,_,rfl,rfl,?_⟩
   walk_at "r"
   refine ⟨_,h3,by rw [af,af,aJ];exact jg (),_,_,rfl,?_,e3.trans Ext.put⟩
   rw [j5,qH (λr:Rch=>r.1) rs j r hr,aB]
   rfl
  ·rintro σ H2 ⟨x,y,rfl,h3,e3⟩
   rw [hlen,aW] at h3
   have sm2:jn H H2:=λc o hc=>e3 c o hc (j1 hc hen)
   walk_at "r"
   refine ⟨aC _,λfo H3 hfo hfo3 s3=>?_⟩
   have hp3:=s3 _ _ (sm2 _ _ hp)
   have hrw3:qc H3 xs rs:=hrw.keep (jj.same (sm2.trans s3))
   have hen3:=s3 _ _ h3
   have hfoH:H fo=none:=sm2.free hfo
   walk_at "r"
   refine ⟨_,_,rfl,.inl (SqL.of hp3),?_⟩
   refine ⟨_,rfl,(),(),?_⟩
   rw [hlen]
   refine qR (lo:=0) (n:=((rs.length:Nat):Int).toNat) (λj σ H4=>∃(v3 v4:Option V) (vs:List V),σ=[some (.ref p),some (.ref en),some (.ref fo),v3,v4]/\H4 fo=some (.lst vs)/\ur fo H4 vs (((aG j).filter (jQ rs)).map λh=>(qA rs h).reverse)/\Ext fo H3 H4/\vs.length<=j) ?_ ?_ ?_
   ·exact ⟨_,_,[],rfl,hfo3,.nil,Ext.refl,aq _⟩
   ·rintro j σ H4 hj ⟨v3,v4,vs,rfl,h4,w4,e4,l4⟩
    have hj':j<rs.length:=()
    have kt4:jj H3 H4:=jj.lst e4 hfo3
    have hen4:=e4 _ _ hen3 (j1 h3 hfo)
    have hp4:=e4 _ _ hp3 (j1 (sm2 _ _ hp) hfo)
    have hrw4:qc H4 xs rs:=hrw3.keep kt4
    have er:(aG (j+1)).filter (jQ rs)=(aG j).filter (jQ rs)++(if jQ rs j=true then [j] else []):=by
     rw [ck,bK]
     congr 1
     by_cases z:jQ rs j=true
     ·rw [if_pos z];simp [z]
     ·rw [if_neg z];simp [z]
    walk_at "r"
    refine ⟨en,_,rfl,.inl (SqL.of hen4),rfl,ya _,?_⟩
    walk_at "r"
    rw [eA,yS]
    refine y3 (λhin=>?_) (λhin=>?_)
    ·have hb:jQ rs j=true:=by unfold jQ;rw [decide_eq_false (show ¬(j:Int)∈tos rs from hin)];rfl
     walk_at "r"
     refine ⟨by show 1<=sizeLine;decide,λr0 H5 hr0 hr05 s5=>?_⟩
     walk_at "r"
     refine Qd (λσ H6=>∃(a:Addr) (r:Nat) (l:List Int),σ=[some (.ref p),some (.ref en),some (.ref fo),some (.int (j:Int)),some (.ref a)]/\jn H4 H6/\H4 a=none/\H6 a=some (.lst (((r:Int)::l).map V.int))/\r<rs.length/\l.length+r<=100/\l.reverse++qA rs r=qA rs j) (λσ H6=>match σ with | [_,_,_,_,some (.ref a)]=>(match H6 a with | some (.lst (.int r::_))=>r.toNat | _=>0) | _=>0) ?_ ?_ ?_
     ·exact ⟨r0,j,[],rfl,s5,hr0,hr05,hj',by simp;omega,rfl⟩
     ·rintro σ H6 ⟨a,r,l,rfl,s6,ha4,ha6,hrl,hll,heq⟩
      have hp6:=s6 _ _ hp4
      obtain ⟨v,hv,q,g,rfl,hq,hg⟩:=(hrw4.keep (jj.same s6)).at (aa hrl)
      have ht:=L.lt hrl
      have hl3:=kU (L _ hrl)
      have et:=JO (aa hrl)
      rw [et] at ht hl3
      generalize (rs[r]'hrl).1=tt at ht hl3 et hq
      walk_at "r"
      refine ⟨_,_,_,_,rfl,rfl,SqL.of ha6,Xf,?_⟩
      refine ⟨_,_,_,_,rfl,rfl,SqL.of hp6,zK hv,?_⟩
      refine ⟨_,_,_,_,rfl,rfl,SqT.of hq,rfl,?_⟩
      walk_at "r"
      refine y3 (λhne=>?_) (λhne=>?_)
      ·have htt:0<=tt:=by
        have:tt ≠ -1:=λz=>hne (by rw [z];rfl)
        omega
       walk_at "r"
       refine ⟨_,_,_,_,rfl,rfl,SqL.of ha6,Xf,?_⟩
       refine ⟨_,_,_,_,rfl,rfl,SqL.of hp6,zK hv,?_⟩
       refine ⟨_,_,_,_,rfl,rfl,SqT.of hq,rfl,?_⟩
       refine ⟨by show 1<=sizeLine;decide,λc1 H7 hc1 hc17 s7=>?_⟩
       walk_at "r"
       refine ⟨c1,a,_,_,rfl,rfl,hc17,s7 _ _ ha6,?_,λc2 H8 hc2 hc28 s8=>?_⟩
       ·show 1+(((r:Int)::l).map V.int).length<=sizeLine
        rw [af,bb]
        exact eV (jg ())
       ·have ett:tt=((tt.toNat:Nat):Int):=()
        refine ⟨⟨c2,tt.toNat,(r:Int)::l,rfl,(s6.trans s7).trans s8,(s6.trans s7).free hc2,?_,(),?_,?_⟩,?_⟩
        ·rw [hc28,ett]
         simp only [bE]
         rfl
        ·rw [bb];omega
        ·rw [lj,cD,<- heq,zI L hrl,et,if_neg ()]
         rfl
        ·show (match H8 c2 with | some (.lst (.int r::_))=>r.toNat | _=>0)<(match H6 a with | some (.lst (.int r::_))=>r.toNat | _=>0)
         rw [hc28,ha6]
         show tt.toNat<((r:Int)).toNat
         omega
      ·have htm:tt = -1:=V.int.inj hne
       have hfo6:=s6 _ _ h4
       walk_at "r"
       refine ⟨.inl ⟨rfl,_,SqL.of hfo6⟩,?_⟩
       walk_at "r"
       refine ⟨fo,_,_,rfl,rfl,hfo6,jg (),?_⟩
       have naf:a≠fo:=λz=>by rw [z,h4] at ha4;cases ha4
       refine ⟨_,_,vs++[.ref a],rfl,j5,?_,λc o hc n=>by rw [j6 n];exact s6 _ _ (e4 c o hc n),by rw [ak,bg];omega⟩
       rw [er,if_pos hb,aB]
       refine ur.ext (bL (w4.ext (Ext.of_same s6)) ⟨a,rfl,naf,?_⟩) Ext.put
       show H6 a=some (.lst (((qA rs j).reverse).map V.int))
       rw [ha6,<- heq,zI L hrl,et,if_pos (),List.reverse_append,eR]
       rfl
     ·exact Vt (wS Wm (wS (Uv K) (wS (Zo K) (Zx 0) (wS (Zo K) (Zx 4) (Zw _))) (Zw _)) (wS (WM _) (Zw _) (Zw _)))
    ·have hb:¬jQ rs j=true:=by unfold jQ;rw [decide_eq_true (show (j:Int)∈tos rs from hin)];exact au
     refine ⟨_,_,vs,rfl,h4,?_,e4,()⟩
     rw [er,if_neg hb,aM]
     exact w4
   ·rintro σ H4 ⟨v3,v4,vs,rfl,h4,w4,e4,l4⟩
    rw [bE] at w4 l4
    have sm4:jn H H4:=λc o hc=>e4 _ _ (s3 _ _ (sm2 _ _ hc)) (j1 hc hfoH)
    walk_at "r"
    refine ⟨fo,vs,_,rfl,SqL.of h4,(),w4.rowsI,λso H5 out hso hso5 s5 hs=>?_⟩
    obtain ⟨ix,hpx,eo,hpw⟩:=hs
    have hvl:vs.length=(js rs).length:=by rw [aK w4,af];rfl
    have hb:∀i∈ix,i<vs.length:=λi hi=>by have:=hpx.mem_iff.mp hi;simpa using this
    have hri:=kZ (w4.rowsI) ix hb
    have hw5:yD H5 out (ix.map λi=>(((js rs).map λh=>(qA rs h).reverse).getD i [])):=by
     rw [eo]
     exact Paired.mapP hri λ_ _ ⟨a,e1,q⟩=>⟨a,e1,s5 _ _ q⟩
    have hol:out.length<=60:=by rw [eo,af,hpx.length_eq,br];omega
    generalize hrv:(ix.map λi=>(((js rs).map λh=>(qA rs h).reverse).getD i []))=rv at hw5
    have hrvl:=aK hw5
    have isr:qf rs (rv.map cB):=by
     refine ⟨?_,?_⟩
     ·have h1:=hpx.map λi=>(((js rs).map λh=>(qA rs h).reverse).getD i [])
      rw [hvl,show (js rs).length=((js rs).map λh=>(qA rs h).reverse).length by rw [af],QO,hrv] at h1
      have h2:=h1.map cB
      rw [bS] at h2
      refine h2.trans (List.Perm.of_eq (dH λx _=>?_))
      exact eR _
     ·rw [bS,show (cB ∘ cB:List Int->List Int)=id from funext λx=>eR x,mQ,<- hrv]
      exact hpw
    refine ⟨so,rfl,⟨_,SqL.of hso5⟩,λacc hacc=>?_⟩
    refine qp (K:=K) (a:=so) (xs:=out) (acc:=acc) (λj σ H6=>∃(x:Option V) (us:List V),σ=[x]/\H6 acc=some (.lst us)/\ur acc H6 us ((rv.take j).map cB)/\Ext acc H5 H6/\us.length=j) ?_ ?_ ?_ ?_
    ·exact ⟨none,[],rfl,j5,.nil,Ext.put,rfl⟩
    ·rintro j σ H6 hj ⟨x,us,rfl,h6,w6,e6,l6⟩
     exact SqL.of (e6 _ _ hso5 (j1 hso5 hacc))
    ·rintro j v σ H6 hv ⟨x,us,rfl,h6,w6,e6,l6⟩
     obtain ⟨y,e2,a,rfl,ha⟩:=Paired.get hw5 hv
     have hj:j<rv.length:=(List.getElem?_eq_some_iff.mp e2).1
     walk_at "r"
     refine ⟨a,_,rfl,SqL.of (e6 _ _ ha (j1 ha hacc)),λq H7 hq hq7 s7=>?_⟩
     have h7:=s7 _ _ h6
     have nq:q≠acc:=λz=>by rw [z,h6] at hq;cases hq
     refine ⟨us,h7,jg (),_,us++[.ref q],rfl,j5,?_,λc o hc n=>by rw [j6 n];exact s7 _ _ (e6 c o hc n),by rw [ak,l6];rfl⟩
     rw [qH cB rv j y e2]
     refine ur.ext (bL (w6.ext (Ext.of_same s7)) ⟨q,rfl,nq,?_⟩) Ext.put
     rw [hq7,pA]
    ·rintro σ H6 ⟨x,us,rfl,h6,w6,e6,l6⟩
     rw [hrvl,aW] at w6
     exact k acc H6 us _ (sm4.free (s5.free hacc)) h6 w6.rowsI isr λc o hc=>e6 _ _ (s5 _ _ (sm4 _ _ hc)) (j1 (s5 _ _ (sm4 _ _ hc)) hacc)
noncomputable def ja (rs:List Rch) (way:List Int):List Int:=(way.map λr=>zN rs r.toNat).flatten
theorem kA (rs:List Rch):∀way:List Int,((ja rs way).length:Int)=jB rs way
 | []=>rfl
 | r::way=>by
  rw [xi,<- kA rs way]
  unfold ja
  rw [aN,lr,ak]
  push_cast
  rfl
theorem Gk {n:Nat}(h:n<=100000):n<sizeLine:=bR h ⋯
theorem we (rs:List Rch) (way:List Int) (j:Nat) (r:Int) (h:way[j]? = some r):ja rs (way.take (j+1))=ja rs (way.take j)++zN rs r.toNat:=by
 unfold ja
 rw [bF,h,aB,List.flatten_append]
 congr 1
 show [zN rs r.toNat].flatten=_
 simp
theorem uM {rs:List Rch}(h100:∀r∈rs,r.2.length<=100):∀way:List Int,(ja rs way).length<=100*way.length
 | []=>by unfold ja;simp
 | r::way=>by
  have ih:=uM h100 way
  have h1:(zN rs r.toNat).length<=100:=by
   unfold zN
   rw [ao]
   cases e:rs[r.toNat]? with
   | none=>simp
   | some q=>exact h100 q (ax e)
  unfold ja at ih ⊢
  rw [aN,lr,ak,bb]
  omega
noncomputable def Q9 (K:ah):Sp:=λvs H Q _=>∃(p a:Addr) (xs:List V) (rs:List Rch) (way:List Int),vs=[.ref p,.ref a]/\H p=some (.lst xs)/\qc H xs rs/\(∀r∈rs,r.2.length<=100)/\H a=some (.lst (way.map V.int))/\(∀r∈way,0<=r/\r<rs.length)/\way.length<=100/\∀l H',H l=none->H' l=some (.lst ((ja rs way).map V.int))->jn H H'->Q (.ref l) H'
theorem xO:FnScope ["_law_reaches_here","_law_road","_law_found","_law_reach","_law_height"] ["_law_reaches_here","_law_road"] (j8 yr):=by walk_at "s"
theorem Yt {f:Addr}{fd:FuncData}(F:Fun K "_law_ground" "_law_ground" yr f fd):FnOk P w K mg base CX0 1 f fd ["_law_reaches_here","_law_road"] (Q9 K):=by
 refine F.ok xO (λvs H Q E h=>?_) (λcdv A outer s H vs Q E hr h=>?_)
 ·obtain ⟨p,a,xs,rs,way,rfl,_⟩:=h
  rfl
 ·obtain ⟨p,a,xs,rs,way,rfl,hp,hrw,h100,ha,hin,hwl,k⟩:=h
  have hlen:=hrw.length
  refine ⟨_,(j4 (jt 2 xO.nd (jL j2))
   (j4 (qt aV rfl (jP K (pv 1)) (jb (i:=3) xO.nd rfl (aP rfl)) (j9 (qt aV rfl (uu K (jo (qo K) (jo (jd K) (pv 0) (pv 3) (λ_ _=>rfl)) j7 (λ_ _=>rfl))) (jb (i:=4) xO.nd rfl (aP rfl)) (j9 (jM (xu K aX aZ b7 jZ (pv 2) (j0 (pv 4) j2)))))))
   (j9 (jk (pv 2))))),?_⟩
  walk_at "r"
  refine ⟨aC _,λfo H1 hfo hfo1 s1=>?_⟩
  have ha1:=s1 _ _ ha
  walk_at "r"
  refine ⟨⟨_,SqL.of ha1⟩,zw (K:=K) (a:=a) (xs:=way.map V.int) (λj σ H2=>∃x y:Option V,σ=[some (.ref p),some (.ref a),some (.ref fo),x,y]/\H2 fo=some (.lst ((ja rs (way.take j)).map V.int))/\Ext fo H1 H2) ⟨_,_,rfl,hfo1,Ext.refl⟩ ?_ ?_ ?_⟩
  ·rintro j σ H2 hj ⟨x,y,rfl,h2,e2⟩
   exact SqL.of (e2 _ _ ha1 (j1 ha hfo))
  ·rintro j v σ H2 hv ⟨x,y,rfl,h2,e2⟩
   obtain ⟨r,rfl⟩:=yM hv
   have hz:way[j]? = some r:=by
    rw [av] at hv
    cases e:way[j]? with
    | none=>rw [e] at hv;cases hv
    | some y=>rw [e] at hv;cases hv;rfl
   have hj:j<way.length:=(List.getElem?_eq_some_iff.mp hz).1
   have hr:=hin r (ax hz)
   have hi:r.toNat<rs.length:=()
   obtain ⟨v,hv',q,g,rfl,hq,hg⟩:=(hrw.keep ((jj.same s1).trans (jj.lst e2 hfo1))).at (aa hi)
   have hsl:=h100 _ (bY hi)
   have hgl:=uM h100 (way.take j)
   have htl:(way.take j).length<=100:=by rw [aJ];omega
   walk_at "r"
   refine ⟨_,_,_,_,rfl,rfl,SqL.of (e2 _ _ (s1 _ _ hp) (j1 hp hfo)),qS hr.1 hv',?_⟩
   refine ⟨_,_,_,_,rfl,rfl,SqT.of hq,rfl,?_⟩
   refine ⟨g,rfl,⟨_,SqT.of hg⟩,UF (K:=K) (a:=g) (xs:=(rs[r.toNat]'hi).2.map V.int) (λi σ H3=>∃y:Option V,σ=[some (.ref p),some (.ref a),some (.ref fo),some (.int r),y]/\H3 fo=some (.lst ((ja rs (way.take j)++(rs[r.toNat]'hi).2.take i).map V.int))/\Ext fo H2 H3) ⟨_,rfl,?_,Ext.refl⟩ ?_ ?_ ?_⟩
   ·rw [se,aM];exact h2
   ·rintro i σ H3 hi3 ⟨y,rfl,h3,e3⟩
    exact SqT.of (jj.lst e3 h2 _ _ hg)
   ·rintro i v σ H3 hv3 ⟨y,rfl,h3,e3⟩
    obtain ⟨z,rfl⟩:=yM hv3
    have hz3:(rs[r.toNat]'hi).2[i]? = some z:=by
     rw [av] at hv3
     cases e:(rs[r.toNat]'hi).2[i]? with
     | none=>rw [e] at hv3;cases hv3
     | some y=>rw [e] at hv3;cases hv3;rfl
    walk_at "r"
    refine ⟨.inl ⟨rfl,_,SqL.of h3⟩,?_⟩
    walk_at "r"
    refine ⟨fo,_,_,rfl,rfl,h3,?_,?_⟩
    ·rw [af,ak,aJ]
     exact Gk ()
    ·refine ⟨_,rfl,?_,e3.trans Ext.put⟩
     rw [j5,bF,hz3,<- cD,aB,aB,aB]
     rfl
   ·rintro σ H3 ⟨y,rfl,h3,e3⟩
    refine ⟨_,_,rfl,?_,e2.trans e3⟩
    rw [h3,af,aW,we rs way j r hz,Jz (aa hi)]
  ·rintro σ H2 ⟨x,y,rfl,h2,e2⟩
   rw [af,aW] at h2
   walk_at "r"
   exact k fo H2 hfo h2 λc o hc=>e2 _ _ (s1 _ _ hc) (j1 hc hfo)
noncomputable def ZE (Pt C:Addr):Sp:=λvs H Q E=>∃(p:Addr) (xs:List V) (rs:List Rch) (l:Int),vs=[.ref p,.int l]/\H p=some (.lst xs)/\qc H xs rs/\xq rs/\rs.length<=60/\qK H Pt /\
 (∀t H' ws (i:Nat),l=i->i<ws.length->qf rs ws->H' t=some (.tup ((ws.getD i []).map V.int))->Ext Pt H H'->qK H' Pt->Q (.ref t) H')/\∀H',(l<0\/((js rs).length:Int)<=l)->Ext Pt H H'->qK H' Pt->E (.ref C) none H'
theorem gZ:FnScope ["reaches","lane","ways"] ["reaches","lane"] (j8 wJ):=by walk_at "s"
theorem Yw {f Pt C:Addr}{fd:FuncData}(nb:Nb2 mg) (e_NoLane:mg "NoLane" = some (.ref C)) (x_NoLane:cZ K C [.type "ValueError",.type "Exception",.type "BaseException",.type "object"] "ValueError.__new__" = true) (c_lanes:Cal P w K mg base 5 "lanes" ["reaches"] (ud K Pt)) (F:Fun K "way_of" "way_of" wJ f fd):FnOk P w K mg base (CX1 P w) 6 f fd ["reaches","lane"] (ZE Pt C):=by
 refine Fun.okX F gZ (λvs H Q E h=>?_) (λcdv A outer s H vs Q E hr h=>?_)
 ·obtain ⟨p,xs,rs,l,rfl,_⟩:=h
  rfl
 ·obtain ⟨p,xs,rs,l,rfl,hp,hrw,L,h60,hT,k,kx⟩:=h
  refine ⟨_,(j4 (jt 2 gZ.nd (je c_lanes (hr.mono ⋯) rfl (j0 (pv 0) j2)))
   (j4 (jU (xo (xU qE vw j7 (pv 1) (jf (jh K) rfl nb.b_len aT (j0 (pv 2) j2)))) (j9 (xy bB x_NoLane e_NoLane rfl zd rfl (j0 jF j2))) jw)
   (j9 (jk (jo (jd K) (pv 2) (pv 1) (λ_ _=>rfl)))))),?_⟩
  walk_at "r"
  refine ⟨p,xs,rs,rfl,hp,hrw,L,h60,hT,λo H1 out ws ho ho1 hw hR X1 T1=>?_⟩
  have hlen:out.length=ws.length:=hw.length
  have hws:(ws.length:Int)=((js rs).length:Int):=by rw [hR.length]
  walk_at "r"
  refine qC (λh0=>?_) (λh0=>?_)
  ·walk_at "r"
   refine ⟨_,_,rfl,.inl (SqL.of ho1),?_⟩
   walk_at "r"
   refine y3 (λh1=>?_) (λh1=>?_)
   ·walk_at "r"
    exact ⟨by show 1<=sizeLine;decide,kx H1 (.inr ()) X1 T1⟩
   ·have hi:l.toNat<out.length:=()
    obtain ⟨wy,hwy,a,hov,ha⟩:=Paired.get hw (aa hi)
    have el:l=(l.toNat:Int):=()
    walk_at "r"
    refine ⟨_,_,_,_,rfl,rfl,SqL.of ho1,(by rw [el];exact zK (aa hi)),?_⟩
    rw [hov]
    refine k a H1 ws l.toNat el () hR ?_ X1 T1
    rw [ha,ao,hwy]
    rfl
  ·walk_at "r"
   refine vt ?_
   walk_at "r"
   exact ⟨by show 1<=sizeLine;decide,kx H1 (.inl ()) X1 T1⟩
noncomputable def Ja (Pt C:Addr):Sp:=λvs H Q E=>∃(p:Addr) (xs:List V) (rs:List Rch) (l:Int),vs=[.ref p,.int l]/\H p=some (.lst xs)/\qc H xs rs/\xq rs/\rs.length<=60/\(∀r∈rs,r.2.length<=100)/\qK H Pt /\
 (∀t H' ws (i:Nat),l=i->i<ws.length->qf rs ws->H t=none->H' t=some (.lst ((ja rs (ws.getD i [])).map V.int))->Ext Pt H H'->qK H' Pt->Q (.ref t) H')/\∀H',(l<0\/((js rs).length:Int)<=l)->Ext Pt H H'->qK H' Pt->E (.ref C) none H'
theorem XJ:FnScope ["reaches","lane"] ["reaches","lane"] (j8 vn):=by walk_at "s"
theorem WP {rs:List Rch}{ws:List (List Int)}(L:xq rs) (h:qf rs ws) {a:Nat}(ha:a<ws.length):(∀r∈ws.getD a [],0<=r/\r<rs.length)/\(ws.getD a []).length<=rs.length:=by
 rw [ao,aa ha]
 obtain ⟨x,hx,e⟩:=h.mem (bY ha)
 show (∀r∈ws[a],_)/\ws[a].length<=_
 rw [e]
 exact ⟨xZ L x (xx hx),by have:=ut L x (xx hx);have:=xx hx;omega⟩
theorem uN {l:List Int}{j:Nat}{v:V}(h:(l.map V.int)[j]? = some v):∃x,v = .int x/\l[j]? = some x:=by
 rw [av] at h
 cases e:l[j]? with
 | none=>rw [e] at h;cases h
 | some y=>rw [e] at h;cases h;exact ⟨y,rfl,rfl⟩
theorem Qk {H H':Hp}{Pt a:Addr}(T:qK H Pt) (e:Ext Pt H H') (T':qK H' Pt) (n:H' a=none):H a=none:=by
 cases q:H a with
 | none=>rfl
 | some o =>
  by_cases z:a=Pt
  ·obtain ⟨ps,h⟩:=T'.ne
   rw [z,h] at n
   cases n
  ·have:=e _ _ q z
   rw [n] at this
   cases this
theorem Zf {f Pt C:Addr}{fd:FuncData}(nb:Nb2 mg) (c_way_of:CalX P w K mg base 6 "way_of" ["reaches","lane"] (ZE Pt C)) (F:Fun K "heights" "heights" vn f fd):FnOk P w K mg base (CX1 P w) 7 f fd ["reaches","lane"] (Ja Pt C):=by
 refine Fun.okX F XJ (λvs H Q E h=>?_) (λcdv A outer s H vs Q E hr h=>?_)
 ·obtain ⟨p,xs,rs,l,rfl,_⟩:=h
  rfl
 ·obtain ⟨p,xs,rs,l,rfl,hp,hrw,L,h60,h100,hT,k,kx⟩:=h
  refine ⟨_,(j9 (jk (YO (osc:=(j8 vn)) (ON:=["reaches","lane"]) (N:=["reach","height","reaches"]) (own:=2) (caps:=[0]) ⟨rfl,∅,∅,∅,rfl,∅⟩ rfl rfl rfl (uu K (zi c_way_of (hr.mono ⋯) qM rfl (j0 (pv 0) (j0 (pv 1) j2)))) (λ_ _ _ _ _=>(jb (i:=0) (show bo (["reach","height","reaches"]:List Str) by decide +kernel) rfl (aP rfl))) (λ_ _ _ _ _=>jK) (λ_ _ _ _ _=>(uu K (jo (qo K) (jo (jd K) (pv 2) (pv 0) (λ_ _=>rfl)) j7 (λ_ _=>rfl)))) (λ_ _ _ _ _=>(jb (i:=1) (show bo (["reach","height","reaches"]:List Str) by decide +kernel) rfl (aP rfl))) (λ_ _ _ _ _=>jK) (λ_ _ _ _ _=>(pv 1))))),?_⟩
  obtain ⟨ps,hPt⟩:=hT.ne
  walk_at "r"
  refine ⟨p,xs,rs,l,rfl,hp,hrw,L,h60,hT,λt H1 ws i ei hi hR ht1 X1 T1=>?_,λH1 hbad X1 T1=>kx H1 hbad X1 T1⟩
  have hp1:=X1 _ _ hp (ji hp hPt (by walk_at "z"))
  have hrw1:qc H1 xs rs:=hrw.keep (jj.tbl X1 hPt)
  obtain ⟨inw,lenw⟩:=WP L hR hi
  have kk:=λt H'=>k t H' ws i ei hi hR
  generalize ws.getD i []=way at *
  walk_at "r"
  refine ⟨⟨_,SqT.of ht1⟩,λacc hacc=>?_⟩
  refine ZW (K:=K) (a:=t) (xs:=way.map V.int) (acc:=acc) (λj σ H2=>∃x y:Option V,σ=[x,y,some (.ref p)]/\H2 acc=some (.lst ((ja rs (way.take j)).map V.int))/\Ext acc H1 H2) ?_ ?_ ?_ ?_
  ·exact ⟨none,none,rfl,j5,Ext.put⟩
  ·rintro j σ H2 hj ⟨x,y,rfl,h3,e3⟩
   exact SqT.of (e3 _ _ ht1 (j1 ht1 hacc))
  ·rintro j v σ H2 hv ⟨x,y,rfl,h3,e3⟩
   obtain ⟨r,rfl,hr'⟩:=uN hv
   have hin:=inw r (ax hr')
   have hri:r.toNat<rs.length:=()
   obtain ⟨v,hv2,q,g,rfl,hq1,hg1⟩:=hrw1.at (aa hri)
   have hp2:=e3 _ _ hp1 (j1 hp1 hacc)
   have hq:=e3 _ _ hq1 (j1 hq1 hacc)
   have gl:=uM h100 (way.take j)
   have jl:(way.take j).length<=60:=by rw [aJ];omega
   have hsn:=we rs way j r hr'
   have ehs:zN rs r.toNat=(rs[r.toNat]'hri).2:=by
    unfold zN
    rw [ao,aa hri]
    rfl
   have hl100:=h100 _ (bY hri)
   rw [ehs] at hsn
   generalize (rs[r.toNat]'hri).2=hs at hg1 hsn hl100
   walk_at "r"
   refine ⟨_,_,_,_,rfl,rfl,SqL.of hp2,(by rw [show r=((r.toNat:Nat):Int) by omega];exact zK hv2),?_⟩
   refine ⟨_,_,_,_,rfl,rfl,SqT.of hq,rfl,?_⟩
   refine ⟨g,rfl,⟨_,SqT.of (e3 _ _ hg1 (j1 hg1 hacc))⟩,?_⟩
   refine Gm (K:=K) (a:=g) (acc:=acc) (xs:=hs.map V.int) (λn σ H4=>∃y:Option V,σ=[some (.int r),y,some (.ref p)]/\H4 acc=some (.lst ((ja rs (way.take j)++hs.take n).map V.int))/\Ext acc H1 H4) ?_ ?_ ?_ ?_
   ·exact ⟨y,rfl,by rw [se,aM];exact h3,e3⟩
   ·rintro n σ H4 hn ⟨y,rfl,h4,e4⟩
    exact SqT.of (e4 _ _ hg1 (j1 hg1 hacc))
   ·rintro n v σ H4 hv4 ⟨y,rfl,h4,e4⟩
    obtain ⟨h,rfl,hh⟩:=uN hv4
    have hnl:=(List.getElem?_eq_some_iff.mp hh).1
    walk_at "r"
    refine ⟨_,h4,by rw [af,ak,aJ];exact aQ (show _<10000 by omega) ⋯,some (.int h),rfl,?_,e4.trans Ext.put⟩
    rw [j5,bF,hh,eB,<- cD,aB (l₁:=ja rs (way.take j)++hs.take n)]
    rfl
   ·rintro σ H4 ⟨y,rfl,h4,e4⟩
    rw [af,aW,<- hsn] at h4
    exact ⟨_,_,rfl,h4,e4⟩
  ·rintro σ H2 ⟨x,y,rfl,h3,e3⟩
   rw [af,aW] at h3
   exact kk acc H2 (Qk hT X1 T1 hacc) h3 (λc o hc n=>e3 _ _ (X1 _ _ hc n) (λz=>by rw [z,Qk hT X1 T1 hacc] at hc;cases hc)) (T1.extN hacc e3)
noncomputable def wt (va cy sl ye le:Addr):List (Str×V):=jr "leaps" (.ref le) (jr "years" (.ref ye) (jr "slopes" (.ref sl) (jr "cycle" (.ref cy) (jr "valley" (.ref va) []))))
theorem kH (va cy sl ye le:Addr):(wt va cy sl ye le).lookup ("cycle" : Str)=some (.ref cy):=by
 unfold wt
 rw [jy,if_neg ∅,jy,if_neg ∅,jy,if_neg ∅,jy,if_pos rfl]
theorem zG (va cy sl ye le:Addr):(wt va cy sl ye le).lookup ("slopes" : Str)=some (.ref sl):=by
 unfold wt
 rw [jy,if_neg ∅,jy,if_neg ∅,jy,if_pos rfl]
theorem wU (va cy sl ye le:Addr):(wt va cy sl ye le).lookup ("years" : Str)=some (.ref ye):=by
 unfold wt
 rw [jy,if_neg ∅,jy,if_pos rfl]
theorem vE (va cy sl ye le:Addr):(wt va cy sl ye le).lookup ("leaps" : Str)=some (.ref le):=by
 unfold wt
 rw [jy,if_pos rfl]
theorem UH (va cy sl ye le:Addr) {m:Str}(h1:¬m = "leaps") (h2:¬m = "years") (h3:¬m = "slopes") (h4:¬m = "cycle") (h5:¬m = "valley"):(wt va cy sl ye le).lookup m=none:=by
 unfold wt
 rw [jy,if_neg h1,jy,if_neg h2,jy,if_neg h3,jy,if_neg h4,jy,if_neg h5]
 rfl
theorem qT {va cy sl ye le:Addr}{m:Str}(h:(¬m="leaps")/\(¬m="years")/\(¬m="slopes")/\(¬m="cycle")/\¬m="valley"):(wt va cy sl ye le).lookup m=none:=UH _ _ _ _ _ h.1 h.2.1 h.2.2.1 h.2.2.2.1 h.2.2.2.2
structure IceC (K:ah) (C:Addr):Prop where
 cl:Cls K C
 nV:zx K C "valley"
 nC:zx K C "cycle"
 nS:zx K C "slopes"
 nY:zx K C "years"
 nL:zx K C "leaps"
structure IceG where
 dx:Addr
 va:Addr
 cy:Addr
 sl:Addr
 ye:Addr
 le:Addr
 xs:List V
 ys:List V
 zs:List V
 lds:List (Addr×List (Key×V))
 kvs:List (Key×V)
 rs:List Rch
 rows:List T3
 slopes:List (List Int)
structure IceAt (C:Addr) (H:Hp) (p:Addr) (g:IceG):Prop where
 ob:H p=some (.ins C g.dx (wt g.va g.cy g.sl g.ye g.le))
 va:H g.va=some (.lst g.xs)
 rs:qc H g.xs g.rs
 cy:H g.cy=some (.lst g.ys)
 rows:jD H g.ys g.rows
 sl:H g.sl=some (.lst g.zs)
 slopes:yD H g.zs g.slopes
 ye:H g.ye=some (.dK g.kvs)
 le:H g.le=some (.lst (g.lds.map λx=>V.ref x.1))
 lds:∀x∈g.lds,H x.1=some (.dK x.2)
theorem IceAt.same {C:Addr}{H H':Hp}{p:Addr}{g:IceG}(I:IceAt C H p g) (s:jn H H'):IceAt C H' p g :=
 ⟨s _ _ I.ob,s _ _ I.va,I.rs.keep (jj.same s),s _ _ I.cy,I.rows.imp λ_ _ q=>s _ _ q,s _ _ I.sl,Paired.mapP I.slopes λ_ _ ⟨a,e,q⟩=>⟨a,e,s _ _ q⟩,s _ _ I.ye,s _ _ I.le,λx hx=>s _ _ (I.lds x hx)⟩
theorem JY {C:Addr}{H:Hp}{p:Addr}{g:IceG}(I:IceAt C H p g) {l:Int}(h0:0<=l) (h1:l<(g.slopes.length:Int)):∃a,atI g.zs l=some (.ref a)/\H a=some (.lst ((g.slopes.getD l.toNat []).map V.int)):=by
 have hz:g.zs.length=g.slopes.length:=aK I.slopes
 have hi:l.toNat<g.zs.length:=()
 obtain ⟨w,hw,a,e,ha⟩:=Paired.get I.slopes (aa hi)
 refine ⟨a,?_,?_⟩
 ·rw [show l=((l.toNat:Nat):Int) by omega]
  refine zK ?_
  rw [aa hi,e]
 ·rw [ha,ao,hw]
  rfl
theorem WY {l:List Int}{n:Nat}(h:n<l.length):(l.map V.int)[n]? = some (V.int (l.getD n 0)):=by
 rw [av,ao,aa h]
 rfl
noncomputable def xY (C CN:Addr):Sp:=λvs H Q E=>∃(p:Addr) (g:IceG) (l:Int),vs=[.ref p,.int l]/\IceAt C H p g/\(0<=l->l<(g.slopes.length:Int)->Q .non H)/\(l<0\/(g.slopes.length:Int)<=l->E (.ref CN) none H)
theorem vP:FnScope ["self","lane"] ["self","lane"] (j8 xC):=by walk_at "s"
theorem vQ {f C CN:Addr}{fd:FuncData}(nb:Nb2 mg) (T:IceC K C) (e_NoLane:mg "NoLane" = some (.ref CN)) (x_NoLane:cZ K CN [.type "ValueError",.type "Exception",.type "BaseException",.type "object"] "ValueError.__new__" = true) (F:Fun K "check_lane" "Ice.check_lane" xC f fd):FnOk P w K mg base (CX1 P w) 1 f fd ["self","lane"] (xY C CN):=by
 refine Fun.okX F vP (λvs H Q E h=>?_) (λcdv A outer s H vs Q E hr h=>?_)
 ·obtain ⟨p,g,l,rfl,_⟩:=h
  rfl
 ·obtain ⟨p,g,l,rfl,I,k,kx⟩:=h
  have hz:g.zs.length=g.slopes.length:=aK I.slopes
  refine ⟨_,(j9 (jU (xo (xU qE vw j7 (pv 1) (jf (jh K) rfl nb.b_len aT (j0 (xk K (pv 0)) j2)))) (j9 (xy bB x_NoLane e_NoLane rfl zd rfl (j0 jF j2))) jw)),?_⟩
  walk_at "r"
  refine qC (λh0=>?_) (λh0=>?_)
  ·walk_at "r"
   refine ⟨p,C,g.dx,_,_,rfl,I.ob,T.cl,T.nS,zG _ _ _ _ _,?_⟩
   walk_at "r"
   refine ⟨_,_,rfl,.inl (SqL.of I.sl),?_⟩
   rw [hz]
   walk_at "r"
   refine y3 (λh1=>?_) (λh1=>?_)
   ·walk_at "r"
    exact ⟨by show 1<=sizeLine;decide,kx (.inr ())⟩
   ·walk_at "r"
    exact k h0 h1
  ·walk_at "r"
   refine vt ?_
   walk_at "r"
   exact ⟨by show 1<=sizeLine;decide,kx (.inl ())⟩
noncomputable def yB (C CN CP:Addr):Sp:=λvs H Q E=>∃(p:Addr) (g:IceG) (l n:Int),vs=[.ref p,.int l,.int n]/\IceAt C H p g/\(0<=l->l<(g.slopes.length:Int)->0<=n->n<((g.slopes.getD l.toNat []).length:Int)->Q .non H) /\
 (l<0\/(g.slopes.length:Int)<=l->E (.ref CN) none H)/\(0<=l->l<(g.slopes.length:Int)->(n<0\/((g.slopes.getD l.toNat []).length:Int)<=n)->E (.ref CP) none H)
theorem vp:FnScope ["self","lane","place"] ["self","lane","place"] (j8 xm):=by walk_at "s"
theorem vq {f C CN CP:Addr}{fd:FuncData}(nb:Nb2 mg) (T:IceC K C) (e_NoPlace:mg "NoPlace" = some (.ref CP)) (x_NoPlace:cZ K CP [.type "ValueError",.type "Exception",.type "BaseException",.type "object"] "ValueError.__new__" = true) (cl_Ice:Cls K C) (c_Ice__check_lane:CalMX P w K mg base 1 C "check_lane" ["self","lane"] (xY C CN)) (F:Fun K "check_place" "Ice.check_place" xm f fd):FnOk P w K mg base (CX1 P w) 2 f fd ["self","lane","place"] (yB C CN CP):=by
 refine Fun.okX F vp (λvs H Q E h=>?_) (λcdv A outer s H vs Q E hr h=>?_)
 ·obtain ⟨p,g,l,n,rfl,_⟩:=h
  rfl
 ·obtain ⟨p,g,l,n,rfl,I,k,kx,ky⟩:=h
  refine ⟨_,(j4 (jM (y4 (pv 0) cl_Ice c_Ice__check_lane (hr.mono ⋯) qM (j0 (pv 1) j2)))
   (j9 (jU (xo (xU qE vw j7 (pv 2) (jf (jh K) rfl nb.b_len aT (j0 (jo (jd K) (xk K (pv 0)) (pv 1) (λ_ _=>rfl)) j2)))) (j9 (xy bB x_NoPlace e_NoPlace rfl zd rfl (j0 jF j2))) jw))),?_⟩
  walk_at "r"
  refine ⟨p,g.dx,_,rfl,I.ob,qT ∅,?_⟩
  walk_at "r"
  refine ⟨p,g,l,rfl,I,λl0 l1=>?_,λhb=>kx hb⟩
  obtain ⟨a,ha,hla⟩:=JY I l0 l1
  walk_at "r"
  refine qC (λh0=>?_) (λh0=>?_)
  ·walk_at "r"
   refine ⟨p,C,g.dx,_,_,rfl,I.ob,T.cl,T.nS,zG _ _ _ _ _,?_⟩
   walk_at "r"
   refine ⟨_,_,_,_,rfl,rfl,SqL.of I.sl,ha,?_⟩
   walk_at "r"
   refine ⟨_,_,rfl,.inl (SqL.of hla),?_⟩
   rw [af]
   walk_at "r"
   refine y3 (λh1=>?_) (λh1=>?_)
   ·walk_at "r"
    exact ⟨by show 1<=sizeLine;decide,ky l0 l1 (.inr ())⟩
   ·walk_at "r"
    exact k l0 l1 h0 h1
  ·walk_at "r"
   refine vt ?_
   walk_at "r"
   exact ⟨by show 1<=sizeLine;decide,ky l0 l1 (.inl ())⟩
noncomputable def gQ (C CN:Addr):Sp:=λvs H Q E=>∃(p:Addr) (g:IceG) (l:Int),vs=[.ref p,.int l]/\IceAt C H p g/\(0<=l->l<(g.slopes.length:Int)->Q (.int ((g.slopes.getD l.toNat []).length:Int)) H)/\(l<0\/(g.slopes.length:Int)<=l->E (.ref CN) none H)
theorem kD:FnScope ["self","lane"] ["self","lane"] (j8 zP):=by walk_at "s"
theorem kP {f C CN:Addr}{fd:FuncData}(nb:Nb2 mg) (T:IceC K C) (cl_Ice:Cls K C) (c_Ice__check_lane:CalMX P w K mg base 1 C "check_lane" ["self","lane"] (xY C CN)) (F:Fun K "length" "Ice.length" zP f fd):FnOk P w K mg base (CX1 P w) 2 f fd ["self","lane"] (gQ C CN):=by
 refine Fun.okX F kD (λvs H Q E h=>?_) (λcdv A outer s H vs Q E hr h=>?_)
 ·obtain ⟨p,g,l,rfl,_⟩:=h
  rfl
 ·obtain ⟨p,g,l,rfl,I,k,kx⟩:=h
  refine ⟨_,(j4 (jM (y4 (pv 0) cl_Ice c_Ice__check_lane (hr.mono ⋯) qM (j0 (pv 1) j2)))
   (j9 (jk (jf (jh K) rfl nb.b_len aT (j0 (jo (jd K) (xk K (pv 0)) (pv 1) (λ_ _=>rfl)) j2))))),?_⟩
  walk_at "r"
  refine ⟨p,g.dx,_,rfl,I.ob,qT ∅,?_⟩
  walk_at "r"
  refine ⟨p,g,l,rfl,I,λl0 l1=>?_,λhb=>kx hb⟩
  obtain ⟨a,ha,hla⟩:=JY I l0 l1
  walk_at "r"
  refine ⟨p,C,g.dx,_,_,rfl,I.ob,T.cl,T.nS,zG _ _ _ _ _,?_⟩
  walk_at "r"
  refine ⟨_,_,_,_,rfl,rfl,SqL.of I.sl,ha,?_⟩
  walk_at "r"
  refine ⟨_,_,rfl,.inl (SqL.of hla),?_⟩
  rw [af]
  exact k l0 l1
noncomputable def J0 (C CN CP:Addr):Sp:=λvs H Q E=>∃(p:Addr) (g:IceG) (l n:Int),vs=[.ref p,.int l,.int n]/\IceAt C H p g/\(0<=l->l<(g.slopes.length:Int)->0<=n->n<((g.slopes.getD l.toNat []).length:Int)->Q (.int ((g.slopes.getD l.toNat []).getD n.toNat 0)) H) /\
 (l<0\/(g.slopes.length:Int)<=l->E (.ref CN) none H)/\(0<=l->l<(g.slopes.length:Int)->(n<0\/((g.slopes.getD l.toNat []).length:Int)<=n)->E (.ref CP) none H)
theorem kz:FnScope ["self","lane","place"] ["self","lane","place"] (j8 zO):=by walk_at "s"
theorem wL {f C CN CP:Addr}{fd:FuncData}(nb:Nb2 mg) (T:IceC K C) (cl_Ice:Cls K C) (c_Ice__check_place:CalMX P w K mg base 2 C "check_place" ["self","lane","place"] (yB C CN CP)) (F:Fun K "height" "Ice.height" zO f fd):FnOk P w K mg base (CX1 P w) 3 f fd ["self","lane","place"] (J0 C CN CP):=by
 refine Fun.okX F kz (λvs H Q E h=>?_) (λcdv A outer s H vs Q E hr h=>?_)
 ·obtain ⟨p,g,l,n,rfl,_⟩:=h
  rfl
 ·obtain ⟨p,g,l,n,rfl,I,k,kx,ky⟩:=h
  refine ⟨_,(j4 (jM (y4 (pv 0) cl_Ice c_Ice__check_place (hr.mono ⋯) qM (j0 (pv 1) (j0 (pv 2) j2))))
   (j9 (jk (jo (jd K) (jo (jd K) (xk K (pv 0)) (pv 1) (λ_ _=>rfl)) (pv 2) (λ_ _=>rfl))))),?_⟩
  walk_at "r"
  refine ⟨p,g.dx,_,rfl,I.ob,qT ∅,?_⟩
  walk_at "r"
  refine ⟨p,g,l,n,rfl,I,λl0 l1 n0 n1=>?_,λhb=>kx hb,λl0 l1 hb=>ky l0 l1 hb⟩
  obtain ⟨a,ha,hla⟩:=JY I l0 l1
  walk_at "r"
  refine ⟨p,C,g.dx,_,_,rfl,I.ob,T.cl,T.nS,zG _ _ _ _ _,?_⟩
  walk_at "r"
  refine ⟨_,_,_,_,rfl,rfl,SqL.of I.sl,ha,?_⟩
  walk_at "r"
  refine ⟨_,_,_,_,rfl,rfl,SqL.of hla,(by rw [show n=((n.toNat:Nat):Int) by omega];exact zK (WY ())),?_⟩
  exact k l0 l1 n0 n1
noncomputable def vZ (CR:Addr):Sp:=λvs H Q E=>∃(p:Addr) (xs:List V) (ts:List T3),vs=[.ref p]/\H p=some (.lst xs)/\jD H xs ts/\ts.length<=1000/\(∀H',gr ts=true->jn H H'->Q .non H')/\∀H',gr ts=false->jn H H'->E (.ref CR) none H'
theorem kX:FnScope ["rows"] ["rows"] (j8 zS):=by walk_at "s"
theorem wM {f CR:Addr}{fd:FuncData}(nb:Nb2 mg) (e_BadRound:mg "BadRound" = some (.ref CR)) (x_BadRound:cZ K CR [.type "ValueError",.type "Exception",.type "BaseException",.type "object"] "ValueError.__new__" = true) (c_is_round:Cal P w K mg base 2 "is_round" ["rows"] (ZO K)) (F:Fun K "check_round" "check_round" zS f fd):FnOk P w K mg base (CX1 P w) 3 f fd ["rows"] (vZ CR):=by
 refine Fun.okX F kX (λvs H Q E h=>?_) (λcdv A outer s H vs Q E hr h=>?_)
 ·obtain ⟨p,xs,ts,rfl,_⟩:=h
  rfl
 ·obtain ⟨p,xs,ts,rfl,hp,hr3,h1000,k,kx⟩:=h
  refine ⟨_,(j9 (jU (xo (zT (je c_is_round (hr.mono ⋯) rfl (j0 (pv 0) j2)))) (j9 (xy bB x_BadRound e_BadRound rfl zd rfl (j0 jF j2))) jw)),?_⟩
  walk_at "r"
  refine ⟨p,xs,ts,rfl,hp,hr3,h1000,λH1 s1=>?_⟩
  cases e:gr ts with
  | true =>
   walk_at "r"
   exact k H1 e s1
  | false =>
   walk_at "r"
   exact ⟨by show 1<=sizeLine;decide,kx H1 e s1⟩
noncomputable def Kp (p Pt:Addr) (H H':Hp):Prop:=∀c o,H c=some o->c≠p->c≠Pt->H' c=some o
theorem Kp.trans {p Pt:Addr}{H H1 H2:Hp}(a:Kp p Pt H H1) (b:Kp p Pt H1 H2):Kp p Pt H H2:=λc o h n m=>b c o (a c o h n m) n m
theorem Kp.of_same {p Pt:Addr}{H H':Hp}(s:jn H H'):Kp p Pt H H':=λc o h _ _=>s c o h
theorem Kp.of_ext {p Pt:Addr}{H H':Hp}(s:Ext Pt H H'):Kp p Pt H H':=λc o h _ m=>s c o h m
theorem Kp.put {p Pt:Addr}{H:Hp}{o:HO}:Kp p Pt H (upd H p o):=λc _ h n _=>by rw [j6 n];exact h
theorem Kp.at {p Pt a:Addr}{H H':Hp}{o u:HO}{ps:Array ag}(k:Kp p Pt H H') (h:H a=some o) (hp:H p=some u) (hPt:H Pt=some (.tbl ps)) (n:o≠u) (m:o≠.tbl ps):H' a=some o:=k _ _ h (ji h hp n) (ji h hPt m)
theorem Kp.free {p Pt a:Addr}{H H':Hp}{u u':HO}(k:Kp p Pt H H') (h:H' a=none) (hp:H' p=some u) (hPt:H' Pt=some u'):H a=none:=by
 cases e:H a with
 | none=>rfl
 | some o =>
  have:=k a o e (λz=>by rw [z,hp] at h;cases h) (λz=>by rw [z,hPt] at h;cases h)
  rw [h] at this
  cases this
theorem uy {H:Hp}{Pt p C dx:Addr}{fs:List (Str×V)}{o:HO}(T:qK H Pt) (hp:H p=some (.ins C dx fs)):qK (upd H p o) Pt:=by
 rcases T with h | ⟨c,h,h'⟩
 ·exact .inl (by rw [j6 (ji h hp (by walk_at "z"))];exact h)
 ·exact .inr ⟨c,by rw [j6 (ji h hp (by walk_at "z"))];exact h,by rw [j6 (ji h' hp (by walk_at "z"))];exact h'⟩
theorem jj.kp {p Pt C dx:Addr}{H H':Hp}{fs:List (Str×V)}{ps:Array ag}(k:Kp p Pt H H') (hp:H p=some (.ins C dx fs)) (hPt:H Pt=some (.tbl ps)):jj H H':=λ_ _ h=>k.at h hp hPt (by walk_at "z") (by walk_at "z")
theorem pm {α β:Type}{F:α->β->Prop}:∀{l₁:List α}{l₂:List β},cG F l₁ l₂->∀v∈l₁,∃w,F v w
 | _,_,.nil,v,h=>by cases h
 | _,_,.cons q r,v,h=>by
  rcases List.mem_cons.mp h with rfl | z
  ·exact ⟨_,q⟩
  ·exact pm r v z
theorem pmE {H H0:Hp}{a0:Addr}{zs:List V}{rows:List (List Int)}(r:cG (λv (w:List Int)=>∃a,v=V.ref a/\H a=some (.lst (w.map V.int))/\H0 a=none/\a≠a0) zs rows):∀a,V.ref a∈zs->H0 a=none/\a≠a0:=λa h=>by
 obtain ⟨w,b,e,_,z⟩:=pm r _ h
 cases e
 exact z
structure IceNew (C Pt:Addr) (H H':Hp) (p:Addr) (g:IceG):Prop where
 at_:IceAt C H' p g
 keep:∀c o,H c=some o->c≠p->c≠Pt->H' c=some o
 va:H g.va=none
 cy:H g.cy=none
 sl:H g.sl=none
 ye:H g.ye=none
 le:H g.le=none
 zs:∀a,V.ref a∈g.zs->H a=none
 kvs:g.kvs=[]
 lds:∀x∈g.lds,H x.1=none/\x.2=[]
 ll:g.lds.length=g.slopes.length
 nd:(g.lds.map (·.1)).Nodup
 ny:∀x∈g.lds,x.1≠g.ye
 sl2:∃ws,qf g.rs ws/\g.slopes=ws.map (ja g.rs)
noncomputable def VR (C CV CR Pt:Addr):Sp:=λvs H Q E=>∃(p dx r q:Addr) (xs ys:List V) (rs:List Rch) (ts:List T3),vs=[.ref p,.ref r,.ref q]/\H p=some (.ins C dx [])/\H r=some (.lst xs)/\qc H xs rs/\H q=some (.lst ys)/\jD H ys ts/\(∀r∈rs,r.2.length<=100)/\rs.length<=60/\ts.length<=1000/\qK H Pt /\
 (∀H' g,zE rs=true->gr ts=true->IceNew C Pt H H' p g->g.rs=rs->g.rows=ts->g.xs=xs->g.ys=ys->qK H' Pt->Q .non H') /\
 (∀H',zE rs=false->Ext Pt H H'->qK H' Pt->E (.ref CV) none H')/\(∀H',zE rs=true->gr ts=false->Ext Pt H H'->qK H' Pt->E (.ref CR) none H')
theorem uW:FnScope ["self","reaches","rows"] ["self","reaches","rows"] (j8 qN):=by walk_at "s"
theorem uO {f C CV CR CN Pt:Addr}{fd:FuncData}(nb:Nb2 mg) (T:IceC K C) (e_BadValley:mg "BadValley" = some (.ref CV)) (x_BadValley:cZ K CV [.type "ValueError",.type "Exception",.type "BaseException",.type "object"] "ValueError.__new__" = true)
  (c_is_valley:Cal P w K mg base 6 "is_valley" ["reaches"] (Qv K Pt)) (c_check_round:CalX P w K mg base 3 "check_round" ["rows"] (vZ CR)) (c_lanes:Cal P w K mg base 5 "lanes" ["reaches"] (ud K Pt)) (c_heights:Cal P w K mg base 7 "heights" ["reaches","lane"] (λvs H Q _=>Ja Pt CN vs H Q E0))
  (F:Fun K "__init__" "Ice.__init__" qN f fd):FnOk P w K mg base (CX1 P w) 8 f fd ["self","reaches","rows"] (VR C CV CR Pt):=by
 refine Fun.okX F uW (λvs H Q E h=>?_) (λcdv A outer s H vs Q E hr h=>?_)
 ·obtain ⟨p,dx,r,q,xs,ys,rs,ts,rfl,_⟩:=h
  rfl
 ·obtain ⟨p,dx,r,q,xs,ys,rs,ts,rfl,hp,hr',hrw,hq,hr3,h100,h60,h1000,hT,k,kv,kr⟩:=h
  obtain ⟨ps,hPt⟩:=hT.ne
  refine ⟨_,(j4 (jU (xo (zT (je c_is_valley (hr.mono ⋯) rfl (j0 (pv 1) j2)))) (j9 (xy bB x_BadValley e_BadValley rfl zd rfl (j0 jF j2))) jw)
   (j4 (jM (zi c_check_round (hr.mono ⋯) qM rfl (j0 (pv 2) j2)))
   (j4 (uz K (pv 0) (qI (qJ K) rfl nb.b_list bT (j0 (pv 1) j2)))
   (j4 (uz K (pv 0) (qI (qJ K) rfl nb.b_list bT (j0 (pv 2) j2)))
   (j4 (uz K (pv 0) (jY (osc:=(j8 qN)) (ON:=["self","reaches","rows"]) (N:=["lane","reaches"]) (own:=1) (caps:=[1]) ⟨rfl,∅,∅,∅,rfl,∅⟩ rfl rfl rfl (qh rfl nb.b_range (j0 (jf (jh K) rfl nb.b_len aT (j0 (je c_lanes (hr.mono ⋯) rfl (j0 (pv 1) j2)) j2)) j2)) (λ_ _ _ _ _=>(jb (i:=0) (show bo (["lane","reaches"]:List Str) by decide +kernel) rfl (aP rfl))) (λ_ _ _ _ _=>jK) (λ_ _ _ _ _=>(je c_heights (hr.mono ⋯) rfl (j0 (pv 1) (j0 (pv 0) j2))))))
   (j4 (uz K (pv 0) y7)
   (j9 (uz K (pv 0) (jY (osc:=(j8 qN)) (ON:=["self","reaches","rows"]) (N:=["slope"]) (own:=1) (caps:=[]) ⟨rfl,∅,∅,∅,rfl,∅⟩ rfl rfl rfl (jP K (xk K (pv 0))) (λ_ _ _ _ _=>(jb (i:=0) (show bo (["slope"]:List Str) by decide +kernel) rfl (aP rfl))) (λ_ _ _ _ _=>jK) (λ_ _ _ _ _=>y7)))))))))),?_⟩
  walk_at "r"
  refine ⟨r,xs,rs,rfl,hr',hrw,h100,h60,hT,λH1 X1 T1=>?_⟩
  cases eg:zE rs with
  | false =>
   walk_at "r"
   exact ⟨by show 1<=sizeLine;decide,kv H1 eg X1 T1⟩
  | true =>
   have X1':∀{a:Addr} {o:HO},H a=some o->(∀ps,o≠.tbl ps)->H1 a=some o:=λ{a o} h n=>X1 _ _ h (ji h hPt (n _))
   have hp1:=X1' hp (by walk_at "w")
   have hr1:=X1' hr' (by walk_at "w")
   have hq1:=X1' hq (by walk_at "w")
   have hrw1:qc H1 xs rs:=hrw.keep (jj.tbl X1 hPt)
   have hr31:jD H1 ys ts:=hr3.imp λa t e=>X1' e (by walk_at "w")
   walk_at "r"
   refine ⟨q,ys,ts,rfl,hq1,hr31,h1000,λH2 egr s2=>?_,λH2 egr s2=>kr H2 eg egr (X1.trans (Ext.of_same s2)) (T1.same s2)⟩
   have L:xq rs:=qk (by unfold zE at eg;rw [bf,bf] at eg;exact eg.2.1)
   have k2:Kp p Pt H H2:=(Kp.of_ext X1).trans (Kp.of_same s2)
   have hp2:=s2 _ _ hp1
   have T2:=T1.same s2
   walk_at "r"
   refine ⟨_,_,rfl,.inl (SqL.of (s2 _ _ hr1)),λva H3 va2 va3 s3=>?_⟩
   have hp3:=s3 _ _ hp2
   have T3':=T2.same s3
   have k3:=k2.trans (Kp.of_same s3)
   obtain ⟨_,hPt2⟩:=T2.ne
   have va0:=k2.free va2 hp2 hPt2
   walk_at "r"
   refine ⟨p,C,dx,_,rfl,hp3,T.cl,T.nV,⋯,?_⟩
   have Ta:qK (upd H3 p (HO.ins C dx (jr "valley" (V.ref va) []))) Pt:=uy T3' hp3
   have ka:=k3.trans (Kp.put (p:=p) (Pt:=Pt) (o:=HO.ins C dx (jr "valley" (V.ref va) [])))
   have pa:upd H3 p (HO.ins C dx (jr "valley" (V.ref va) [])) p=some (HO.ins C dx (jr "valley" (V.ref va) [])):=j5
   have vaa:upd H3 p (HO.ins C dx (jr "valley" (V.ref va) [])) va=some (HO.lst xs):=by rw [j6 (j1 hp2 va2).symm];exact va3
   clear k2 k3 hp1 hr1 hq1 hrw1 hr31 X1' X1 T1 s2 hp2 T2 s3 hp3 T3' va3 va2 hPt2
   generalize upd H3 p (HO.ins C dx (jr "valley" (V.ref va) []))=Ha at *
   obtain ⟨_,hPta⟩:=Ta.ne
   have vaP:va≠Pt:=ji vaa hPta (by walk_at "z")
   have vap:va≠p:=ji vaa pa (by walk_at "z")
   walk_at "r"
   refine ⟨_,_,rfl,.inl (SqL.of (ka.at hq hp hPt (by walk_at "z") (by walk_at "z"))),λcy H4 cya cy4 s4=>?_⟩
   have hp4:=s4 _ _ pa
   have T4:=Ta.same s4
   have cy0:=ka.free cya pa hPta
   walk_at "r"
   refine ⟨p,C,dx,_,rfl,hp4,T.cl,T.nC,bR (qa _ _ _) ⋯,?_⟩
   have kb:=(ka.trans (Kp.of_same s4)).trans (Kp.put (p:=p) (Pt:=Pt) (o:=HO.ins C dx (jr "cycle" (V.ref cy) (jr "valley" (V.ref va) []))))
   have Tb:qK (upd H4 p (HO.ins C dx (jr "cycle" (V.ref cy) (jr "valley" (V.ref va) [])))) Pt:=uy T4 hp4
   have pb:upd H4 p (HO.ins C dx (jr "cycle" (V.ref cy) (jr "valley" (V.ref va) []))) p=some (HO.ins C dx (jr "cycle" (V.ref cy) (jr "valley" (V.ref va) []))):=j5
   have vab:upd H4 p (HO.ins C dx (jr "cycle" (V.ref cy) (jr "valley" (V.ref va) []))) va=some (HO.lst xs):=by rw [j6 vap];exact s4 _ _ vaa
   have cyb:upd H4 p (HO.ins C dx (jr "cycle" (V.ref cy) (jr "valley" (V.ref va) []))) cy=some (HO.lst ys):=by rw [j6 (j1 pa cya).symm];exact cy4
   clear ka Ta pa vaa s4 hp4 T4 cya cy4 hPta
   generalize upd H4 p (HO.ins C dx (jr "cycle" (V.ref cy) (jr "valley" (V.ref va) [])))=Hb at *
   obtain ⟨_,hPtb⟩:=Tb.ne
   have cyP:cy≠Pt:=ji cyb hPtb (by walk_at "z")
   have cyp:cy≠p:=ji cyb pb (by walk_at "z")
   have pP:p≠Pt:=ji pb hPtb (by walk_at "z")
   walk_at "r"
   refine ⟨r,xs,rs,rfl,kb.at hr' hp hPt (by walk_at "z") (by walk_at "z"),hrw.keep (jj.kp kb hp hPt),L,h60,Tb,λo H5 out ws ho ho5 hw hR X5 T5=>?_⟩
   walk_at "r"
   refine ⟨_,_,rfl,.inl (SqL.of ho5),?_⟩
   have hlen:out.length=ws.length:=hw.length
   have hws:ws.length<=60:=by
    rw [hR.length]
    unfold js
    exact aF (bN _ _) (by rw [br];exact h60)
   refine ⟨(out.length:Int),rfl,(),(),λacc hacc=>?_⟩
   obtain ⟨_,hPt5⟩:=T5.ne
   have kb5:Kp p Pt H H5:=kb.trans (Kp.of_ext X5)
   have hp5:=X5 _ _ pb pP
   have va5:=X5 _ _ vab vaP
   have cy5:=X5 _ _ cyb cyP
   have hr5:H5 r=some (.lst xs):=kb5.at hr' hp hPt (by walk_at "z") (by walk_at "z")
   have hrw5:qc H5 xs rs:=hrw.keep (jj.kp kb5 hp hPt)
   have accP:Pt≠acc:=j1 hPt5 hacc
   refine xn (lo:=0) (n:=((out.length:Int)).toNat) (acc:=acc) (λi σ H6=>∃(x:Option V) (zs:List V),σ=[x,some (.ref r)]/\H6 acc=some (.lst zs)/\zs.length=i/\cG (λv (w:List Int)=>∃a,v=V.ref a/\H6 a=some (.lst (w.map V.int))/\H5 a=none/\a≠acc) zs ((ws.take i).map (ja rs))/\Kp acc Pt H5 H6/\qK H6 Pt) ?_ ?_ ?_
   ·exact ⟨none,[],rfl,j5,rfl,.nil,Kp.put,T5.extN hacc Ext.put⟩
   ·rintro i σ H6 hi ⟨x,zs,rfl,h6,hz,r6,k6,T6⟩
    obtain ⟨_,hPt6⟩:=T6.ne
    have iw:i<ws.length:=()
    walk_at "r"
    refine ⟨r,xs,rs,_,rfl,k6 _ _ hr5 (j1 hr5 hacc) (ji hr5 hPt5 (by walk_at "z")),hrw5.keep (λa o h=>k6 _ _ h (j1 h hacc) (ji h hPt5 (by walk_at "z"))),L,h60,h100,T6,λt H7 ws' i' ei hi' hR' ht ht7 X7 T7=>?_,λH' hb _ _=>?_⟩
    ·obtain rfl:=hR.unique hR'
     obtain rfl:i'=i:=()
     have h7:=X7 _ _ h6 accP.symm
     have ta:t≠acc:=(j1 h6 ht).symm
     have tP:t≠Pt:=(j1 hPt6 ht).symm
     refine ⟨zs,h7,jg (),some (.int (0+(i':Int))),zs++[.ref t],rfl,j5,by rw [ak,hz];rfl,?_,?_,?_⟩
     ·rw [qH (ja rs) ws i' (ws.getD i' []) (by rw [ao,aa iw];rfl)]
      refine bL (Paired.mapP r6 λv wy ⟨a,e,ha,h0,na⟩=>⟨a,e,?_,h0,na⟩) ⟨t,rfl,by rw [j6 ta];exact ht7,k6.free ht h6 hPt6,ta⟩
      rw [j6 na]
      exact X7 _ _ ha (ji ha hPt6 (by walk_at "z"))
     ·exact (k6.trans (Kp.of_ext X7)).trans Kp.put
     ·exact T7.ext h7 Ext.put
    ·have:=hR.length
     exact absurd hb ()
   ·rintro σ H6 ⟨x,zs,rfl,h6,hz,r6,k6,T6⟩
    rw [bE,hlen,aW] at r6
    have f6:=pmE r6
    have hp6:=k6 _ _ hp5 (j1 hp5 hacc) pP
    have kc:Kp p Pt H (upd H6 p (HO.ins C dx (jr "slopes" (V.ref acc) (jr "cycle" (V.ref cy) (jr "valley" (V.ref va) []))))):=λc o h n m=>by
     rw [j6 n]
     have:=kb5 c o h n m
     exact k6 _ _ this (j1 this hacc) m
    have acp:acc≠p:=(j1 hp5 hacc).symm
    have acc0:=kb5.free hacc hp5 hPt5
    have zs0:∀a,V.ref a∈zs->H a=none:=λa z=>kb5.free (f6 a z).1 hp5 hPt5
    walk_at "r"
    refine ⟨p,C,dx,_,rfl,hp6,T.cl,T.nS,bR (aF (qa _ _ _) (bZ (qa _ _ _))) ⋯,?_⟩
    have Tc:qK (upd H6 p (HO.ins C dx (jr "slopes" (V.ref acc) (jr "cycle" (V.ref cy) (jr "valley" (V.ref va) []))))) Pt:=uy T6 hp6
    have pc:upd H6 p (HO.ins C dx (jr "slopes" (V.ref acc) (jr "cycle" (V.ref cy) (jr "valley" (V.ref va) [])))) p=some (HO.ins C dx (jr "slopes" (V.ref acc) (jr "cycle" (V.ref cy) (jr "valley" (V.ref va) [])))):=j5
    have vac:upd H6 p (HO.ins C dx (jr "slopes" (V.ref acc) (jr "cycle" (V.ref cy) (jr "valley" (V.ref va) [])))) va=some (HO.lst xs):=by rw [j6 vap];exact k6 _ _ va5 (j1 va5 hacc) vaP
    have cyc:upd H6 p (HO.ins C dx (jr "slopes" (V.ref acc) (jr "cycle" (V.ref cy) (jr "valley" (V.ref va) [])))) cy=some (HO.lst ys):=by rw [j6 cyp];exact k6 _ _ cy5 (j1 cy5 hacc) cyP
    have slc:upd H6 p (HO.ins C dx (jr "slopes" (V.ref acc) (jr "cycle" (V.ref cy) (jr "valley" (V.ref va) [])))) acc=some (HO.lst zs):=by rw [j6 acp];exact h6
    have slsc:yD (upd H6 p (HO.ins C dx (jr "slopes" (V.ref acc) (jr "cycle" (V.ref cy) (jr "valley" (V.ref va) []))))) zs (ws.map (ja rs)):=Paired.mapP r6 λv wy ⟨a,e,ha,h0,na⟩=>⟨a,e,by rw [j6 (j1 hp5 h0).symm];exact ha⟩
    clear r6 f6 k6 T6 h6 hp6 kb5 hp5 va5 cy5 hr5 hrw5 X5 T5 kb Tb pb vab cyb hPtb accP hacc ho ho5 hw hPt5
    generalize upd H6 p (HO.ins C dx (jr "slopes" (V.ref acc) (jr "cycle" (V.ref cy) (jr "valley" (V.ref va) []))))=Hc at *
    walk_at "r"
    intro ye hye
    obtain ⟨_,hPtc⟩:=Tc.ne
    have ye0:=kc.free hye pc hPtc
    have yep:ye≠p:=(j1 pc hye).symm
    have s9:jn Hc (upd Hc ye (.dK [])):=jn.new hye
    walk_at "r"
    refine ⟨p,C,dx,_,rfl,s9 _ _ pc,T.cl,T.nY,bR (aF (qa _ _ _) (bZ (aF (qa _ _ _) (bZ (qa _ _ _))))) ⋯,?_⟩
    have d_of:∀c o,Hc c=some o->c≠p->(upd (upd Hc ye (HO.dK [])) p (HO.ins C dx (jr "years" (V.ref ye) (jr "slopes" (V.ref acc) (jr "cycle" (V.ref cy) (jr "valley" (V.ref va) [])))))) c=some o:=λc o h n=>by rw [j6 n];exact s9 _ _ h
    have kd:Kp p Pt H (upd (upd Hc ye (HO.dK [])) p (HO.ins C dx (jr "years" (V.ref ye) (jr "slopes" (V.ref acc) (jr "cycle" (V.ref cy) (jr "valley" (V.ref va) [])))))):=(kc.trans (Kp.of_same s9)).trans Kp.put
    have Td:qK (upd (upd Hc ye (HO.dK [])) p (HO.ins C dx (jr "years" (V.ref ye) (jr "slopes" (V.ref acc) (jr "cycle" (V.ref cy) (jr "valley" (V.ref va) [])))))) Pt:=uy (Tc.same s9) (s9 _ _ pc)
    have pd:(upd (upd Hc ye (HO.dK [])) p (HO.ins C dx (jr "years" (V.ref ye) (jr "slopes" (V.ref acc) (jr "cycle" (V.ref cy) (jr "valley" (V.ref va) [])))))) p=some (HO.ins C dx (jr "years" (V.ref ye) (jr "slopes" (V.ref acc) (jr "cycle" (V.ref cy) (jr "valley" (V.ref va) []))))):=j5
    have vad:=d_of _ _ vac vap
    have cyd:=d_of _ _ cyc cyp
    have sld:=d_of _ _ slc acp
    have yed:(upd (upd Hc ye (HO.dK [])) p (HO.ins C dx (jr "years" (V.ref ye) (jr "slopes" (V.ref acc) (jr "cycle" (V.ref cy) (jr "valley" (V.ref va) [])))))) ye=some (.dK []):=by rw [j6 yep];exact j5
    have slsd:yD (upd (upd Hc ye (HO.dK [])) p (HO.ins C dx (jr "years" (V.ref ye) (jr "slopes" (V.ref acc) (jr "cycle" (V.ref cy) (jr "valley" (V.ref va) [])))))) zs (ws.map (ja rs)):=Paired.mapP slsc λv wy ⟨a,e,ha⟩=>⟨a,e,d_of _ _ ha (ji ha pc (by walk_at "z"))⟩
    clear d_of kc Tc pc vac cyc slc slsc hye hPtc s9
    generalize (upd (upd Hc ye (HO.dK [])) p (HO.ins C dx (jr "years" (V.ref ye) (jr "slopes" (V.ref acc) (jr "cycle" (V.ref cy) (jr "valley" (V.ref va) []))))))=Hd at *
    obtain ⟨_,hPtd⟩:=Td.ne
    walk_at "r"
    refine ⟨p,C,dx,_,_,rfl,pd,T.cl,T.nS,(by rw [jy,if_neg ∅,jy,if_pos rfl]),?_⟩
    walk_at "r"
    refine ⟨⟨_,SqL.of sld⟩,λle hle=>?_⟩
    have lep:le≠p:=(j1 pd hle).symm
    have le0:=kd.free hle pd hPtd
    have zl:zs.length<=60:=()
    refine qp (K:=K) (a:=acc) (xs:=zs) (acc:=le) (λi σ He=>∃(x:Option V) (lds:List (Addr×List (Key×V))),σ=[x]/\He le=some (.lst (lds.map λx=>V.ref x.1))/\lds.length=i/\(∀x∈lds,He x.1=some (.dK x.2)/\x.2=[]/\Hd x.1=none/\x.1≠le)/\(lds.map (·.1)).Nodup/\Ext le Hd He) ?_ ?_ ?_ ?_
    ·exact ⟨none,[],rfl,j5,rfl,(λx z=>by cases z),eS,Ext.put⟩
    ·rintro i σ He hi ⟨x,lds,rfl,he,hl,hd,nn,e⟩
     exact SqL.of (e _ _ sld (j1 sld hle))
    ·rintro i v σ He hv ⟨x,lds,rfl,he,hl,hd,nn,e⟩
     have hi:=(List.getElem?_eq_some_iff.mp hv).1
     walk_at "r"
     intro d hd0
     have dl:d≠le:=(j1 he hd0).symm
     refine ⟨_,(by rw [j6 (cj dl)];exact he),by rw [af];exact jg (),some v,lds++[(d,[])],rfl,(by rw [j5,aB];rfl),(by rw [ak,hl];rfl),λy hy=>?_,?_,λc o hc n=>?_⟩
     ·rcases List.mem_append.mp hy with z | z
      ·obtain ⟨h1,h2,h3,h4⟩:=hd y z
       exact ⟨by rw [j6 h4,j6 (j1 h1 hd0)];exact h1,h2,h3,h4⟩
      ·obtain rfl:y=(d,[]):=by simpa using z
       exact ⟨by rw [j6 dl];exact j5,rfl,e.free hd0 dl,dl⟩
     ·rw [aB]
      refine wD nn λz=>?_
      obtain ⟨y,hy,ey⟩:=List.mem_map.mp z
      have:=(hd y hy).1
      rw [ey,hd0] at this
      cases this
     ·rw [j6 n,j6 (j1 (e c o hc n) hd0)]
      exact e c o hc n
    ·rintro σ He ⟨x,lds,rfl,he,hl,hd,nn,e⟩
     have hpe:=e _ _ pd (j1 pd hle)
     walk_at "r"
     refine ⟨p,C,dx,_,rfl,hpe,T.cl,T.nL,bR (aF (qa _ _ _) (bZ (aF (qa _ _ _) (bZ (aF (qa _ _ _) (bZ (qa _ _ _))))))) ⋯,?_⟩
     have f_of:∀c o,Hd c=some o->c≠p->upd He p (HO.ins C dx (jr "leaps" (V.ref le) (jr "years" (V.ref ye) (jr "slopes" (V.ref acc) (jr "cycle" (V.ref cy) (jr "valley" (V.ref va) [])))))) c=some o:=λc o h n=>by rw [j6 n];exact e _ _ h (j1 h hle)
     have kf:Kp p Pt H (upd He p (HO.ins C dx (jr "leaps" (V.ref le) (jr "years" (V.ref ye) (jr "slopes" (V.ref acc) (jr "cycle" (V.ref cy) (jr "valley" (V.ref va) []))))))):=λc o h n m=>f_of c o (kd c o h n m) n
     have hnp:∀x∈lds,x.1≠p:=λx hx=>(j1 pd (hd x hx).2.2.1).symm
     refine k _ { dx:=dx,va:=va,cy:=cy,sl:=acc,ye:=ye,le:=le,xs:=xs,ys:=ys,zs:=zs,lds:=lds,kvs:=[],rs:=rs,rows:=ts,slopes:=ws.map (ja rs) } eg egr ⟨⟨j5,f_of _ _ vad vap,hrw.keep (jj.kp kf hp hPt),f_of _ _ cyd cyp,hr3.imp λa t e=>kf.at e hp hPt (by walk_at "z") (by walk_at "z"),f_of _ _ sld acp,Paired.mapP slsd λv wy ⟨a,e,ha⟩=>⟨a,e,f_of _ _ ha (ji ha pd (by walk_at "z"))⟩,f_of _ _ yed yep,(by rw [j6 lep];exact he),λx hx=>by rw [j6 (hnp x hx)];exact (hd x hx).1⟩,kf,va0,cy0,acc0,ye0,le0,zs0,rfl,λx hx=>⟨kd.free (hd x hx).2.2.1 pd hPtd,(hd x hx).2.1⟩,hl.trans (aK slsd),nn,λx hx=>(j1 yed (hd x hx).2.2.1).symm,ws,hR,rfl⟩ rfl rfl rfl rfl (uy (Td.extN hle e) hpe)
noncomputable def yK (CY:Addr):Sp:=λvs H Q E=>∃y:Int,vs=[.int y]/\(0<=y->y<=99->Q .non H)/\(y<0\/99<y->E (.ref CY) none H)
theorem gy:FnScope ["year"] ["year"] (j8 yu):=by walk_at "s"
theorem gq {f CY:Addr}{fd:FuncData}{u0:Tok}(g_LAST_TOLD:mg "LAST_TOLD" = some (.int 99 u0)) (e_BadYear:mg "BadYear" = some (.ref CY)) (x_BadYear:cZ K CY [.type "ValueError",.type "Exception",.type "BaseException",.type "object"] "ValueError.__new__" = true) (F:Fun K "check_told" "check_told" yu f fd):FnOk P w K mg base (CX1 P w) 1 f fd ["year"] (yK CY):=by
 refine Fun.okX F gy (λvs H Q E h=>?_) (λcdv A outer s H vs Q E hr h=>?_)
 ·obtain ⟨y,rfl,_⟩:=h
  rfl
 ·obtain ⟨y,rfl,k,kx⟩:=h
  refine ⟨_,(j9 (jU (xo (xU qE qE j7 (pv 0) (xl (v:=V.int 99) rfl g_LAST_TOLD ⟨_,rfl⟩))) (j9 (xy bB x_BadYear e_BadYear rfl zd rfl (j0 jF j2))) jw)),?_⟩
  walk_at "r"
  refine qC (λh0=>?_) (λh0=>?_)
  ·walk_at "r"
   refine y3 (λh1=>?_) (λh1=>?_)
   ·walk_at "r"
    exact ⟨by show 1<=sizeLine;decide,kx (.inr ())⟩
   ·walk_at "r"
    exact k h0 h1
  ·walk_at "r"
   refine vt ?_
   walk_at "r"
   exact ⟨by show 1<=sizeLine;decide,kx (.inl ())⟩
theorem IceAt.years {C p:Addr}{H H':Hp}{g:IceG}{kvs:List (Key×V)}(I:IceAt C H p g) (hn:∀x∈g.lds,x.1≠g.ye) (e:Ext g.ye H H') (h:H' g.ye=some (.dK kvs)):IceAt C H' p { g with kvs:=kvs }:=by
 have f:∀{c:Addr} {o:HO},H c=some o->o≠.dK g.kvs->H' c=some o:=λh n=>e _ _ h (ji h I.ye n)
 exact ⟨f I.ob (by walk_at "z"),f I.va (by walk_at "z"),I.rs.keep λ_ _ q=>f q (by walk_at "z"),f I.cy (by walk_at "z"),I.rows.imp λ_ _ q=>f q (by walk_at "z"),f I.sl (by walk_at "z"),Paired.mapP I.slopes λv w ⟨a,ea,q⟩=>⟨a,ea,f q (by walk_at "z")⟩,h,f I.le (by walk_at "z"),λx hx=>e _ _ (I.lds x hx) (hn x hx)⟩
noncomputable def VP (C CY CW:Addr):Sp:=λvs H Q E=>∃(p t:Addr) (g:IceG) (y:Int) (r:T3),vs=[.ref p,.int y,.ref t]/\IceAt C H p g/\(∀x∈g.lds,x.1≠g.ye)/\H t=some (yo r)/\g.kvs.length<=1000 /\
 (∀H',0<=y->y<=99->good r=true->Ext g.ye H H'->IceAt C H' p { g with kvs:=qB g.kvs (.inl y) (.ref t) }->Q .non H')/\(y<0\/99<y->E (.ref CY) none H)/\(0<=y->y<=99->good r=false->E (.ref CW) none H)
theorem JT:FnScope ["self","year","row"] ["self","year","row"] (j8 yT):=by walk_at "s"
theorem Q0 {f C CY CW:Addr}{fd:FuncData}(nb:Nb2 mg) (T:IceC K C) (e_BadWeather:mg "BadWeather" = some (.ref CW)) (x_BadWeather:cZ K CW [.type "ValueError",.type "Exception",.type "BaseException",.type "object"] "ValueError.__new__" = true) (c_check_told:CalX P w K mg base 1 "check_told" ["year"] (yK CY)) (c_is_weather:Cal P w K mg base 1 "is_weather" ["row"] Xy) (F:Fun K "tell" "Ice.tell" yT f fd):FnOk P w K mg base (CX1 P w) 2 f fd ["self","year","row"] (VP C CY CW):=by
 refine Fun.okX F JT (λvs H Q E h=>?_) (λcdv A outer s H vs Q E hr h=>?_)
 ·obtain ⟨p,t,g,y,r,rfl,_⟩:=h
  rfl
 ·obtain ⟨p,t,g,y,r,rfl,I,hn,ht,hk,k,ky,kw⟩:=h
  refine ⟨_,(j4 (jM (zi c_check_told (hr.mono ⋯) qM rfl (j0 (pv 1) j2)))
   (j4 (jU (xo (zT (je c_is_weather (hr.mono ⋯) rfl (j0 (pv 2) j2)))) (j9 (xy bB x_BadWeather e_BadWeather rfl zd rfl (j0 jF j2))) jw)
   (j9 (zf (jR hr) (xk K (pv 0)) (pv 1) (pv 2) rfl)))),?_⟩
  walk_at "r"
  refine ⟨λh0 h1=>?_,λhb=>ky hb⟩
  walk_at "r"
  refine ⟨t,r,rfl,ht,?_⟩
  cases eg:good r with
  | false =>
   walk_at "r"
   exact ⟨by show 1<=sizeLine;decide,kw h0 h1 eg⟩
  | true =>
   walk_at "r"
   refine ⟨p,C,g.dx,_,_,rfl,I.ob,T.cl,T.nY,wU _ _ _ _ _,?_⟩
   walk_at "r"
   refine ⟨g.ye,_,rfl,vF.k (k:=.inl y) I.ye (jg hk),?_⟩
   exact k _ h0 h1 eg Ext.put (I.years hn Ext.put j5)
noncomputable def yZ (l:List (Addr×List (Key×V))) (n:Nat) (kvs:List (Key×V)):List (Addr×List (Key×V)):=l.set n ((l.getD n (0,[])).1,kvs)
theorem Y7 (l:List (Addr×List (Key×V))) (n:Nat) (kvs:List (Key×V)):(yZ l n kvs).map (λx=>V.ref x.1)=l.map λx=>V.ref x.1:=by
 unfold yZ
 rw [List.map_set]
 by_cases h:n<l.length
 ·rw [ao,aa h]
  refine fS λi=>?_
  rw [fV]
  by_cases e:n=i
  ·subst e
   rw [if_pos rfl,af,if_pos h,av,aa h]
   rfl
  ·rw [if_neg e]
 ·rw [List.set_eq_of_length_le (by rw [af];omega)]
theorem IceAt.leap {C p:Addr}{H H':Hp}{g:IceG}{n:Nat}{a:Addr}{kvs kvs':List (Key×V)}(I:IceAt C H p g) (ha:g.lds[n]? = some (a,kvs)) (hn:∀x∈g.lds,x.1≠g.ye) (nd:(g.lds.map (·.1)).Nodup) (e:Ext a H H') (h:H' a=some (.dK kvs')):IceAt C H' p { g with lds:=yZ g.lds n kvs' }:=by
 have hm:=ax ha
 have h0:=I.lds _ hm
 have f:∀{c:Addr} {o:HO},H c=some o->(∀z,o≠.dK z)->H' c=some o:=λh n=>e _ _ h (ji h h0 (n _))
 have hl:n<g.lds.length:=(List.getElem?_eq_some_iff.mp ha).1
 refine ⟨f I.ob (by walk_at "w"),f I.va (by walk_at "w"),I.rs.keep λ_ _ q=>f q (by walk_at "w"),f I.cy (by walk_at "w"),I.rows.imp λ_ _ q=>f q (by walk_at "w"),f I.sl (by walk_at "w"),Paired.mapP I.slopes λv w ⟨a,ea,q⟩=>⟨a,ea,f q (by walk_at "w")⟩,e _ _ I.ye (λz=>hn _ hm z.symm),(by show H' g.le=_;rw [Y7];exact f I.le (by walk_at "w")),λx hx=>?_⟩
 have hx':x∈yZ g.lds n kvs':=hx
 obtain ⟨i,hi,ex⟩:=List.mem_iff_getElem.mp hx'
 have hi2:i<g.lds.length:=by unfold yZ at hi;rw [ir] at hi;exact hi
 have ex2:(yZ g.lds n kvs')[i]? = some x:=by rw [aa hi,ex]
 unfold yZ at ex2
 rw [fV] at ex2
 by_cases en:n=i
 ·rw [if_pos en,if_pos ()] at ex2
  rw [<- aR ex2,ao,ha]
  exact h
 ·rw [if_neg en] at ex2
  refine e _ _ (I.lds x (ax ex2)) λz=>en ?_
  have h1:(g.lds.map (·.1))[n]? = some a:=by rw [av,ha];rfl
  have h2:(g.lds.map (·.1))[i]? = some a:=by rw [av,ex2,<- z];rfl
  have l1:=(List.getElem?_eq_some_iff.mp h1).1
  have l2:=(List.getElem?_eq_some_iff.mp h2).1
  exact (List.getElem?_inj l1 nd).mp (h1.trans h2.symm)
noncomputable def Zv (C CN CY CS:Addr):Sp:=λvs H Q E=>∃(p:Addr) (g:IceG) (l y m:Int),vs=[.ref p,.int l,.int y,.int m]/\IceAt C H p g/\g.lds.length=g.slopes.length/\(∀x∈g.lds,x.1≠g.ye)/\(g.lds.map (·.1)).Nodup/\(∀x∈g.lds,x.2.length<=1000) /\
 (∀H' a kvs,0<=l->l<(g.slopes.length:Int)->0<=y->y<=99->1<=m->m<=9->g.lds[l.toNat]? = some (a,kvs)->Ext a H H'->IceAt C H' p { g with lds:=yZ g.lds l.toNat (qB kvs (.inl y) (.int m)) }->Q .non H') /\
 (l<0\/(g.slopes.length:Int)<=l->E (.ref CN) none H)/\(0<=l->l<(g.slopes.length:Int)->y<0\/99<y->E (.ref CY) none H)/\(0<=l->l<(g.slopes.length:Int)->0<=y->y<=99->m<1\/9<m->E (.ref CS) none H)
theorem gx:FnScope ["self","lane","year","many"] ["self","lane","year","many"] (j8 yv):=by walk_at "s"
theorem gh {f C CN CY CS:Addr}{fd:FuncData}{u0:Tok}(nb:Nb2 mg) (T:IceC K C) (cl_Ice:Cls K C) (g_GREATEST_SURGE:mg "GREATEST_SURGE" = some (.int 9 u0)) (e_BadSurge:mg "BadSurge" = some (.ref CS)) (x_BadSurge:cZ K CS [.type "ValueError",.type "Exception",.type "BaseException",.type "object"] "ValueError.__new__" = true) (c_Ice__check_lane:CalMX P w K mg base 1 C "check_lane" ["self","lane"] (xY C CN)) (c_check_told:CalX P w K mg base 1 "check_told" ["year"] (yK CY)) (F:Fun K "surge" "Ice.surge" yv f fd):FnOk P w K mg base (CX1 P w) 2 f fd ["self","lane","year","many"] (Zv C CN CY CS):=by
 refine Fun.okX F gx (λvs H Q E h=>?_) (λcdv A outer s H vs Q E hr h=>?_)
 ·obtain ⟨p,g,l,y,m,rfl,_⟩:=h
  rfl
 ·obtain ⟨p,g,l,y,m,rfl,I,hll,hn,nd,hk,k,kn,ky,ks⟩:=h
  refine ⟨_,(j4 (jM (y4 (pv 0) cl_Ice c_Ice__check_lane (hr.mono ⋯) qM (j0 (pv 1) j2)))
   (j4 (jM (zi c_check_told (hr.mono ⋯) qM rfl (j0 (pv 2) j2)))
   (j4 (jU (xo (xU qE qE j7 (pv 3) (xl (v:=V.int 9) rfl g_GREATEST_SURGE ⟨_,rfl⟩))) (j9 (xy bB x_BadSurge e_BadSurge rfl zd rfl (j0 jF j2))) jw)
   (j9 (zf (jR hr) (jo (jd K) (xk K (pv 0)) (pv 1) (λ_ _=>rfl)) (pv 2) (pv 3) rfl))))),?_⟩
  walk_at "r"
  refine ⟨p,g.dx,_,rfl,I.ob,qT ∅,?_⟩
  walk_at "r"
  refine ⟨p,g,l,rfl,I,λl0 l1=>?_,λhb=>kn hb⟩
  walk_at "r"
  refine ⟨λh0 h1=>?_,λhb=>ky l0 l1 hb⟩
  have hi:l.toNat<g.lds.length:=()
  walk_at "r"
  refine qC (λm0=>?_) (λm0=>?_)
  ·walk_at "r"
   refine y3 (λm1=>?_) (λm1=>?_)
   ·walk_at "r"
    exact ⟨by show 1<=sizeLine;decide,ks l0 l1 h0 h1 (.inr ())⟩
   ·walk_at "r"
    refine ⟨p,C,g.dx,_,_,rfl,I.ob,T.cl,T.nL,vE _ _ _ _ _,?_⟩
    walk_at "r"
    refine ⟨_,_,_,_,rfl,rfl,SqL.of I.le,qS l0 (v:=V.ref (g.lds[l.toNat]'hi).1) (by rw [av,aa hi];rfl),?_⟩
    walk_at "r"
    have h0':=I.lds _ (bY hi)
    refine ⟨_,_,rfl,vF.k (k:=.inl y) h0' (jg (hk _ (bY hi))),?_⟩
    exact k _ _ _ l0 l1 h0 h1 m0 m1 (aa hi) Ext.put (I.leap (aa hi) hn nd Ext.put j5)
  ·walk_at "r"
   refine vt ?_
   walk_at "r"
   exact ⟨by show 1<=sizeLine;decide,ks l0 l1 h0 h1 (.inl ())⟩
noncomputable def kvI (q:Int×Int):Key×V:=(.inl q.1,.int q.2)
noncomputable def qW:List (Int×Int)->Int->Int
 | [],_=>0
 | q::r,y=>if q.1=y then q.2 else qW r y
theorem vg:∀(ns:List (Int×Int)) (y:Int),y∈ns.map (·.1)->jV (ns.map kvI) (.inl y)=some (.int (qW ns y))
 | [],y,h=>by cases h
 | q::r,y,h=>by
  rw [aN]
  unfold jV qW
  by_cases e:q.1=y
  ·subst e
   simp [kvI,List.find?]
  ·have h':y∈r.map (·.1):=by
    rcases List.mem_cons.mp h with z | z
    ·exact absurd z.symm e
    ·exact z
   have ih:=vg r y h'
   unfold jV at ih
   simp [kvI,List.find?,e] at ih ⊢
   exact ih
theorem Qp:∀(ns:List (Int×Int)),(ns.map (·.1)).Nodup->(ns.map (·.1)).map (λy=>(y,qW ns y))=ns
 | [],_=>rfl
 | q::r,nd=>by
  rw [aN] at nd ⊢
  obtain ⟨h1,h2⟩:=List.nodup_cons.mp nd
  rw [aN]
  have e:qW (q::r) q.1=q.2:=by unfold qW;rw [if_pos rfl]
  rw [e]
  refine congrArg (q :: ·) ?_
  conv=>rhs;rw [<- Qp r h2]
  refine dH λy hy=>?_
  have hne:¬q.1=y:=λz=>h1 (z ▸ hy)
  show (y,qW (q::r) y)=_
  conv=>lhs;unfold qW
  rw [if_neg hne]
noncomputable def vf (C CN:Addr):Sp:=λvs H Q E=>∃(p:Addr) (g:IceG) (l:Int),vs=[.ref p,.int l]/\IceAt C H p g/\g.lds.length=g.slopes.length/\(l<0\/(g.slopes.length:Int)<=l->E (.ref CN) none H) /\
 (0<=l->l<(g.slopes.length:Int)->∃(a:Addr) (ns:List (Int×Int)),g.lds[l.toNat]? = some (a,ns.map kvI)/\(ns.map (·.1)).Nodup/\ns.length<64 /\
  ∀o H' out (ms:List (Int×Int)),H o=none->H' o=some (.lst out)->cG (λv (m:Int×Int)=>∃b,v=V.ref b/\H' b=some (.tup [.int m.1,.int m.2])) out ms->jn H H'->ms.Perm ns->(ms.map (·.1)).Pairwise (· <= ·)->Q (.ref o) H')
theorem kj:FnScope ["self","lane"] ["self","lane"] (j8 xR):=by walk_at "s"
theorem kS {f C CN:Addr}{fd:FuncData}(nb:Nb2 mg) (T:IceC K C) (cl_Ice:Cls K C) (c_Ice__check_lane:CalMX P w K mg base 1 C "check_lane" ["self","lane"] (xY C CN)) (F:Fun K "surges" "Ice.surges" xR f fd):FnOk P w K mg base (CX1 P w) 2 f fd ["self","lane"] (vf C CN):=by
 refine Fun.okX F kj (λvs H Q E h=>?_) (λcdv A outer s H vs Q E hr h=>?_)
 ·obtain ⟨p,g,l,rfl,_⟩:=h
  rfl
 ·obtain ⟨p,g,l,rfl,I,hll,kx,k⟩:=h
  refine ⟨_,(j4 (jM (y4 (pv 0) cl_Ice c_Ice__check_lane (hr.mono ⋯) qM (j0 (pv 1) j2)))
   (j9 (jk (jY (osc:=(j8 xR)) (ON:=["self","lane"]) (N:=["year","lane","self"]) (own:=1) (caps:=[1,0]) ⟨rfl,∅,∅,∅,rfl,∅⟩ rfl rfl rfl (jP K (jf (JU K rfl) rfl nb.b_sorted pM (j0 (jo (jd K) (xk K (pv 0)) (pv 1) (λ_ _=>rfl)) j2))) (λ_ _ _ _ _=>(jb (i:=0) (show bo (["year","lane","self"]:List Str) by decide +kernel) rfl (aP rfl))) (λ_ _ _ _ _=>jK) (λ_ _ _ _ _=>(jS (j0 (pv 0) (j0 (jJ (jR hr) (jo (jd K) (xk K (pv 2)) (pv 1) (λ_ _=>rfl)) (pv 0) (λ_ _=>rfl)) j2)))))))),?_⟩
  walk_at "r"
  refine ⟨p,g.dx,_,rfl,I.ob,qT ∅,?_⟩
  walk_at "r"
  refine ⟨p,g,l,rfl,I,λl0 l1=>?_,λhb=>kx hb⟩
  obtain ⟨a,ns,ha,nd,h64,k⟩:=k l0 l1
  have hi:=(List.getElem?_eq_some_iff.mp ha).1
  have hm:=I.lds _ (ax ha)
  have hat:atI (g.lds.map λx=>V.ref x.1) l=some (.ref a):=qS l0 (by rw [av,ha];rfl)
  walk_at "r"
  refine ⟨p,C,g.dx,_,_,rfl,I.ob,T.cl,T.nL,vE _ _ _ _ _,?_⟩
  walk_at "r"
  refine ⟨_,_,_,_,rfl,rfl,SqL.of I.le,hat,?_⟩
  refine ⟨a,ns.map kvI,ns.map (·.1),rfl,hm,by rw [bS,bS];rfl,by rw [af];exact h64,λo H1 ks ho ho1 s1 hp hs=>?_⟩
  have hkl:ks.length<64:=by rw [hp.length_eq,af];exact h64
  refine ⟨o,rfl,⟨_,SqL.of ho1⟩,λacc hacc=>?_⟩
  refine qp (K:=K) (a:=o) (xs:=ks.map V.int) (acc:=acc) (λi σ H2=>∃(x:Option V) (out:List V),σ=[x,some (.int l),some (.ref p)]/\H2 acc=some (.lst out)/\out.length=i/\cG (λv (m:Int×Int)=>∃b,v=V.ref b/\H2 b=some (.tup [.int m.1,.int m.2])) out ((ks.take i).map λy=>(y,qW ns y))/\Ext acc H1 H2) ?_ ?_ ?_ ?_
  ·exact ⟨none,[],rfl,j5,rfl,.nil,Ext.put⟩
  ·rintro i σ H2 hi ⟨x,out,rfl,h2,hz,r2,e2⟩
   exact SqL.of (e2 _ _ ho1 (j1 ho1 hacc))
  ·rintro i v σ H2 hv ⟨x,out,rfl,h2,hz,r2,e2⟩
   obtain ⟨y,rfl,hy⟩:=uN hv
   have hiy:=(List.getElem?_eq_some_iff.mp hy).1
   have hyn:y∈ns.map (·.1):=hp.mem_iff.mp (ax hy)
   have t2:jn H H2:=λc o hc=>e2 _ _ (s1 _ _ hc) (j1 (s1 _ _ hc) hacc)
   have I2:=I.same t2
   walk_at "r"
   refine ⟨p,C,g.dx,_,_,rfl,I2.ob,T.cl,T.nL,vE _ _ _ _ _,?_⟩
   walk_at "r"
   refine ⟨_,_,_,_,rfl,rfl,SqL.of I2.le,hat,?_⟩
   walk_at "r"
   refine ⟨a,.int (qW ns y),rfl,by rw [<- vg ns y hyn];exact qU.k (k:=.inl y) (t2 _ _ hm),?_⟩
   walk_at "r"
   refine ⟨by show 2<=sizeLine;decide,λb H3 hb hb3 s3=>?_⟩
   have h3:=s3 _ _ h2
   have bacc:b≠acc:=(j1 h2 hb).symm
   refine ⟨out,h3,jg (),some (.int y),out++[.ref b],rfl,j5,by rw [ak,hz];rfl,?_,λc o hc n=>by rw [j6 n];exact s3 _ _ (e2 c o hc n)⟩
   rw [qH (λy=>(y,qW ns y)) ks i y hy]
   exact bL (Paired.mapP r2 λv m ⟨c,e,q⟩=>⟨c,e,by rw [j6 (ji (s3 _ _ q) h3 (by walk_at "z"))];exact s3 _ _ q⟩) ⟨b,rfl,by rw [j6 bacc];exact hb3⟩
  ·rintro σ H2 ⟨x,out,rfl,h2,hz,r2,e2⟩
   rw [af,aW] at r2
   have t2:jn H H2:=λc o hc=>e2 _ _ (s1 _ _ hc) (j1 (s1 _ _ hc) hacc)
   refine k acc H2 out _ (s1.free hacc) h2 r2 t2 ?_ ?_
   ·have:=hp.map λy=>(y,qW ns y)
    rw [Qp ns nd] at this
    exact this
   ·rw [bS]
    have:((λx:Int×Int=>x.1) ∘ λy=>(y,qW ns y))=id:=rfl
    rw [this,mQ]
    exact hs
noncomputable def jp (st ad:Int):List (Int×Int)->Int->Int
 | [],goal=>if goal-ad > st then goal-ad else st
 | q::r,goal=>if goal-ad<q.1 then (if goal-ad > st then goal-ad else st) else jp q.1 (ad+q.2) r goal
noncomputable def qd (H:Hp) (out:List V) (ms:List (Int×Int)):Prop:=cG (λv (m:Int×Int)=>∃b,v=V.ref b/\H b=some (.tup [.int m.1,.int m.2])) out ms
theorem qd.same {H H':Hp}{out:List V}{ms:List (Int×Int)}(h:qd H out ms) (s:jn H H'):qd H' out ms:=Paired.mapP h λ_ _ ⟨b,e,q⟩=>⟨b,e,s _ _ q⟩
noncomputable def wK:Sp:=λvs H Q _=>∃(p:Addr) (out:List V) (ms:List (Int×Int)) (goal:Int),vs=[.ref p,.int goal]/\H p=some (.lst out)/\qd H out ms/\∀H',jn H H'->Q (.int (jp 0 0 ms goal)) H'
theorem qZ:FnScope ["surges","goal","start","added","year","many"] ["surges","goal"] (j8 vM):=by walk_at "s"
theorem QW {f:Addr}{fd:FuncData}(nb:Nb2 mg) (F:Fun K "earliest" "earliest" vM f fd):FnOk P w K mg base CX0 1 f fd ["surges","goal"] wK:=by
 refine F.ok qZ (λvs H Q E h=>?_) (λcdv A outer s H vs Q E hr h=>?_)
 ·obtain ⟨p,out,ms,goal,rfl,_⟩:=h
  rfl
 ·obtain ⟨p,out,ms,goal,rfl,hp,hr2,k⟩:=h
  have hlen:out.length=ms.length:=aK hr2
  refine ⟨_,(j4 (jt 2 qZ.nd j7)
   (j4 (jt 3 qZ.nd j7)
   (j4 (qt aV rfl (jP K (pv 0)) (qv (n:=2) K rfl (jm (jb (i:=4) qZ.nd rfl (aP rfl)) (jm (jb (i:=5) qZ.nd rfl (aP rfl)) qw))) (j4 (jU (jz vw (jq qG (pv 1) (pv 3)) (pv 4) (jG _)) (j9 QT) jw)
   (j4 (jt 2 qZ.nd (pv 4))
   (j9 (XV (i:=3) qZ.nd rfl (aP rfl) (pv 5) Zh)))))
   (j9 (jk (jf (yh rfl) rfl nb.b_max oQ (j0 (pv 2) (j0 (jq qG (pv 1) (pv 3)) j2)))))))),?_⟩
  walk_at "r"
  refine ⟨⟨_,SqL.of hp⟩,?_⟩
  refine zw (K:=K) (a:=p) (xs:=out) (λi σ H2=>∃(st ad:Int) (v4 v5:Option V),σ=[some (.ref p),some (.int goal),some (.int st),some (.int ad),v4,v5]/\jn H H2/\jp st ad (ms.drop i) goal=jp 0 0 ms goal) ?_ ?_ ?_ ?_
  ·exact ⟨0,0,_,_,rfl,jn.refl _,by rw [sf]⟩
  ·rintro i σ H2 hi ⟨st,ad,v4,v5,rfl,s2,e2⟩
   exact SqL.of (s2 _ _ hp)
  ·rintro i v σ H2 hv ⟨st,ad,v4,v5,rfl,s2,e2⟩
   obtain ⟨m,hm,b,rfl,hb⟩:=Paired.get hr2 hv
   have hi:=(List.getElem?_eq_some_iff.mp hm).1
   have ed:ms.drop i=m::ms.drop (i+1):=by
    rw [bQ hi]
    have:=(List.getElem?_eq_some_iff.mp hm).2
    rw [this]
   rw [ed] at e2
   walk_at "r"
   refine ⟨b,_,rfl,SqT.of (s2 _ _ hb),rfl,?_⟩
   refine ⟨_,_,rfl,_,_,rfl,rfl,?_⟩
   walk_at "r"
   refine qC (λh1=>?_) (λh1=>?_)
   ·walk_at "r"
    refine ⟨_,_,rfl,?_⟩
    rw [show jp st ad (m::ms.drop (i+1)) goal=if goal-ad > st then goal-ad else st from by conv=>lhs;unfold jp;rw [if_pos h1]] at e2
    have k2:=k H2 s2
    rw [<- e2] at k2
    exact k2
   ·walk_at "r"
    refine ⟨_,_,_,_,rfl,s2,?_⟩
    rw [<- e2]
    conv=>rhs;unfold jp;rw [if_neg h1]
  ·rintro σ H2 ⟨st,ad,v4,v5,rfl,s2,e2⟩
   rw [hlen,List.drop_length] at e2
   walk_at "r"
   refine ⟨_,_,rfl,?_⟩
   have k2:=k H2 s2
   rw [<- e2] at k2
   exact k2
noncomputable def YR (C CN:Addr):Sp:=λvs H Q E=>∃(p:Addr) (g:IceG) (l mark:Int),vs=[.ref p,.int l,.int mark]/\IceAt C H p g/\g.lds.length=g.slopes.length/\(∀H',jn H H'->l<0\/(g.slopes.length:Int)<=l->E (.ref CN) none H') /\
 (0<=l->l<(g.slopes.length:Int)->∃(a:Addr) (ns:List (Int×Int)),g.lds[l.toNat]? = some (a,ns.map kvI)/\(ns.map (·.1)).Nodup/\ns.length<64 /\
  ∀ms:List (Int×Int),ms.Perm ns->(ms.map (·.1)).Pairwise (· <= ·)->∀fst gon:Int,fst=jp 0 0 ms mark->gon=jp 0 0 ms (mark+((g.slopes.getD l.toNat []).length:Int)) ->
   (fst<gon->∀t H',jn H H'->H' t=some (.tup [.int fst,.int (gon-1)])->Q (.ref t) H')/\(¬fst<gon->∀H',jn H H'->Q .non H'))
theorem wz:FnScope ["ice","lane","mark","surges","first","gone"] ["ice","lane","mark"] (j8 Z9):=by walk_at "s"
theorem Uw {f C CN:Addr}{fd:FuncData}(cl_Ice:Cls K C) (c_Ice__surges:CalMX P w K mg base 2 C "surges" ["self","lane"] (vf C CN)) (c_Ice__length:CalMX P w K mg base 2 C "length" ["self","lane"] (gQ C CN)) (c_earliest:Cal P w K mg base 1 "earliest" ["surges","goal"] wK) (F:Fun K "span" "span" Z9 f fd):FnOk P w K mg base (CX1 P w) 3 f fd ["ice","lane","mark"] (YR C CN):=by
 refine Fun.okX F wz (λvs H Q E h=>?_) (λcdv A outer s H vs Q E hr h=>?_)
 ·obtain ⟨p,g,l,mark,rfl,_⟩:=h
  rfl
 ·obtain ⟨p,g,l,mark,rfl,I,hll,kx,k⟩:=h
  refine ⟨_,(j4 (jt 3 wz.nd (y4 (pv 0) cl_Ice c_Ice__surges (hr.mono ⋯) qM (j0 (pv 1) j2)))
   (j4 (jt 4 wz.nd (je c_earliest (hr.mono ⋯) rfl (j0 (pv 3) (j0 (pv 2) j2))))
   (j4 (jt 5 wz.nd (je c_earliest (hr.mono ⋯) rfl (j0 (pv 3) (j0 (jq jN (pv 2) (y4 (pv 0) cl_Ice c_Ice__length (hr.mono ⋯) qM (j0 (pv 1) j2))) j2))))
   (j9 (jk (V0 (jz vw (pv 4) (pv 5) (jG _)) (jS (j0 (pv 4) (j0 (jq qG (pv 5) j7) j2))) JA)))))),?_⟩
  walk_at "r"
  refine ⟨p,g.dx,_,rfl,I.ob,qT ∅,?_⟩
  walk_at "r"
  refine ⟨p,g,l,rfl,I,hll,λhb=>kx H (jn.refl H) hb,λl0 l1=>?_⟩
  obtain ⟨a,ns,ha,nd,h64,k⟩:=k l0 l1
  refine ⟨a,ns,ha,nd,h64,λo H1 out ms ho ho1 hq s1 hp hs=>?_⟩
  have k:=k ms hp hs _ _ rfl rfl
  walk_at "r"
  refine ⟨o,out,ms,mark,rfl,ho1,hq,λH2 s2=>?_⟩
  walk_at "r"
  have t2:=s1.trans s2
  refine ⟨p,g.dx,_,rfl,t2 _ _ I.ob,qT ∅,?_⟩
  walk_at "r"
  refine ⟨p,g,l,rfl,I.same t2,λ_ _=>?_,λhb=>absurd hb ()⟩
  walk_at "r"
  refine ⟨o,out,ms,_,rfl,s2 _ _ ho1,qd.same hq s2,λH3 s3=>?_⟩
  have t3:=t2.trans s3
  walk_at "r"
  refine qC (λh1=>?_) (λh1=>?_)
  ·walk_at "r"
   refine ⟨by show 2<=sizeLine;decide,λt H4 ht ht4 s4=>?_⟩
   exact k.1 h1 t H4 (t3.trans s4) ht4
  ·walk_at "r"
   exact k.2 h1 H3 t3
noncomputable def Wh:Sp:=λvs H Q _=>∃(L b:Addr),vs=[.ref b]/\qj L H b/\∀(v:Int) (H':Hp),0<=v->v<10 ^ 40-99->qj L H' b->Ext b H H'->Q (.int v) H'
theorem XC:FnScope ["_law_box_here"] ["_law_box_here"] (j8 w5):=by walk_at "s"
theorem UB {v:Int}(a:0<=v) (b:v<4):∃n,atI [V.int 100,V.int (10 ^ 9),V.int (10 ^ 20),V.int (10 ^ 40-99)] v=some (V.int n)/\0<n/\n<=10 ^ 40-99:=by
 have h:v=0\/v=1\/v=2\/v=3:=()
 rcases h with rfl | rfl | rfl | rfl
 ·exact ⟨100,rfl,⋯,⋯⟩
 ·exact ⟨10 ^ 9,rfl,⋯,⋯⟩
 ·exact ⟨10 ^ 20,rfl,⋯,⋯⟩
 ·exact ⟨10 ^ 40-99,rfl,⋯,⋯⟩
theorem WV {f:Addr}{fd:FuncData}(nb:Nb2 mg) (c_law_take:Cal P w K mg base 2 "_law_take" ["_law_box_here","_law_size"] xP) (F:Fun K "_law_far" "_law_far" w5 f fd):FnOk P w K mg base CX0 3 f fd ["_law_box_here"] Wh:=by
 refine F.ok XC (λvs H Q E h=>?_) (λcdv A outer s H vs Q E hr h=>?_)
 ·obtain ⟨L,b,rfl,_⟩:=h
  rfl
 ·obtain ⟨L,b,rfl,B,k⟩:=h
  refine ⟨_,(j9 (jk (je c_law_take (hr.mono ⋯) rfl (j0 (pv 0) (j0 (jo (jd K) (jL (j0 j7 (j0 (jq JK j7 j7) (j0 (jq JK j7 j7) (j0 (jq qG (jq JK j7 j7) j7) j2))))) (je c_law_take (hr.mono ⋯) rfl (j0 (pv 0) (j0 j7 j2))) (λ_ _=>rfl)) j2))))),?_⟩
  walk_at "r"
  refine ⟨by show 4<=sizeLine;decide,λl H1 hl hl1 s1=>?_⟩
  walk_at "r"
  refine ⟨L,b,_,rfl,B.same s1,⟨⋯,⋯⟩,λv H2 v0 v1 B2 X2=>?_⟩
  obtain ⟨n,en,n0,n1⟩:=UB v0 v1
  have lb:l≠b:=B.ne hl
  refine ⟨l,_,v,_,rfl,rfl,SqL.of (X2 _ _ hl1 lb),en,?_⟩
  walk_at "r"
  refine ⟨L,b,n,rfl,B2,⟨n0,Int.lt_of_le_of_lt n1 ⋯⟩,λv2 H3 v20 v21 B3 X3=>?_⟩
  exact k v2 H3 v20 () B3 (λc o hc nc=>X3 _ _ (X2 _ _ (s1 _ _ hc) nc) nc)
noncomputable def U5:Sp:=λvs H Q _=>∃(L b:Addr),vs=[.ref b]/\qj L H b/\∀(y:Int) (H':Hp),0<=y->y<=99->qj L H' b->Ext b H H'->Q (.int y) H'
theorem QB:FnScope ["_law_box_here"] ["_law_box_here"] (j8 vT):=by walk_at "s"
theorem UM {v a b c:Int}(h0:0<=v) (h1:v<5) (ha:0<=a/\a<=99) (hb:0<=b/\b<=99) (hc:0<=c/\c<=99):∃n,atI [V.int a,V.int b,V.int c,V.int 99,V.int 0] v=some (V.int n)/\0<=n/\n<=99:=by
 have h:v=0\/v=1\/v=2\/v=3\/v=4:=()
 rcases h with rfl | rfl | rfl | rfl | rfl
 ·exact ⟨a,rfl,ha.1,ha.2⟩
 ·exact ⟨b,rfl,hb.1,hb.2⟩
 ·exact ⟨c,rfl,hc.1,hc.2⟩
 ·exact ⟨99,rfl,⋯,⋯⟩
 ·exact ⟨0,rfl,⋯,⋯⟩
theorem Up {f:Addr}{fd:FuncData}(c_law_take:Cal P w K mg base 2 "_law_take" ["_law_box_here","_law_size"] xP) (F:Fun K "_law_year" "_law_year" vT f fd):FnOk P w K mg base CX0 3 f fd ["_law_box_here"] U5:=by
 refine F.ok QB (λvs H Q E h=>?_) (λcdv A outer s H vs Q E hr h=>?_)
 ·obtain ⟨L,b,rfl,_⟩:=h
  rfl
 ·obtain ⟨L,b,rfl,B,k⟩:=h
  refine ⟨_,(j9 (jk (jo (jd K) (jL (j0 (je c_law_take (hr.mono ⋯) rfl (j0 (pv 0) (j0 j7 j2))) (j0 (je c_law_take (hr.mono ⋯) rfl (j0 (pv 0) (j0 j7 j2))) (j0 (je c_law_take (hr.mono ⋯) rfl (j0 (pv 0) (j0 j7 j2))) (j0 j7 (j0 j7 j2)))))) (je c_law_take (hr.mono ⋯) rfl (j0 (pv 0) (j0 j7 j2))) (λ_ _=>rfl)))),?_⟩
  walk_at "r"
  refine ⟨L,b,_,rfl,B,⟨⋯,⋯⟩,λv1 H1 p1 q1 B1 X1=>?_⟩
  walk_at "r"
  refine ⟨L,b,_,rfl,B1,⟨⋯,⋯⟩,λv2 H2 p2 q2 B2 X2=>?_⟩
  walk_at "r"
  refine ⟨L,b,_,rfl,B2,⟨⋯,⋯⟩,λv3 H3 p3 q3 B3 X3=>?_⟩
  walk_at "r"
  refine ⟨by show 5<=sizeLine;decide,λl H4 hl hl4 s4=>?_⟩
  walk_at "r"
  refine ⟨L,b,_,rfl,B3.same s4,⟨⋯,⋯⟩,λv5 H5 p5 q5 B5 X5=>?_⟩
  obtain ⟨n,en,n0,n1⟩:=UM p5 q5 (a:=v1) (b:=v2) (c:=v3) ⟨p1,()⟩ ⟨p2,()⟩ ⟨p3,()⟩
  refine ⟨_,_,_,_,rfl,rfl,SqL.of (X5 _ _ hl4 (B3.ne hl)),en,?_⟩
  exact k n H5 n0 n1 B5 ((((X1.trans X2).trans X3).trans (Ext.of_same s4)).trans X5)
noncomputable def scK (p q sg gl ll:Addr):List (Key×V):=[(.inr "reaches",.ref p),(.inr "rows",.ref q),(.inr "single",.ref sg),(.inr "grounds",.ref gl),(.inr "leaps",.ref ll)]
theorem xh {k:Key}{v:V}{r:List (Key×V)}:jV ((k,v)::r) k=some v:=by
 unfold jV
 rw [fW (p:=λkv:Key×V=>decide (kv.1=k)) (a:=(k,v)) (decide_eq_true rfl)]
 rfl
theorem ju {k k':Key}{v:V}{r:List (Key×V)}(h:k'≠k):jV ((k',v)::r) k=jV r k:=by
 unfold jV
 rw [fX (p:=λkv:Key×V=>decide (kv.1=k)) (a:=(k',v)) (λz=>h (of_decide_eq_true z))]
theorem Zj (p q sg gl ll:Addr):jV (scK p q sg gl ll) (.inr "reaches")=some (.ref p):=xh
theorem Jw (p q sg gl ll:Addr):jV (scK p q sg gl ll) (.inr "rows")=some (.ref q):=(ju (show (bh (aj "reaches"):Key)≠bh (aj "rows") by decide +kernel)).trans (xh)
theorem yg (p q sg gl ll:Addr):jV (scK p q sg gl ll) (.inr "single")=some (.ref sg):=(ju (show (bh (aj "reaches"):Key)≠bh (aj "single") by decide +kernel)).trans ((ju (show (bh (aj "rows"):Key)≠bh (aj "single") by decide +kernel)).trans (xh))
theorem xH (p q sg gl ll:Addr):jV (scK p q sg gl ll) (.inr "grounds")=some (.ref gl):=(ju (show (bh (aj "reaches"):Key)≠bh (aj "grounds") by decide +kernel)).trans ((ju (show (bh (aj "rows"):Key)≠bh (aj "grounds") by decide +kernel)).trans ((ju (show (bh (aj "single"):Key)≠bh (aj "grounds") by decide +kernel)).trans (xh)))
theorem wY (p q sg gl ll:Addr):jV (scK p q sg gl ll) (.inr "leaps")=some (.ref ll):=(ju (show (bh (aj "reaches"):Key)≠bh (aj "leaps") by decide +kernel)).trans ((ju (show (bh (aj "rows"):Key)≠bh (aj "leaps") by decide +kernel)).trans ((ju (show (bh (aj "single"):Key)≠bh (aj "leaps") by decide +kernel)).trans ((ju (show (bh (aj "grounds"):Key)≠bh (aj "leaps") by decide +kernel)).trans (xh))))
noncomputable def FrM (M:Addr->Prop) (H H':Hp):Prop:=∀c o,H c=some o->H' c=some o\/(M c/\∃ob kvs,o = .dK kvs/\H' c=some (.frz ob (.dK kvs)))
theorem FrM.of_same {M:Addr->Prop}{H H':Hp}(s:jn H H'):FrM M H H':=λc o h=>.inl (s c o h)
theorem FrM.trans {M:Addr->Prop}{H H1 H2:Hp}(a:FrM M H H1) (b:FrM M H1 H2):FrM M H H2:=λc o h=>by
 rcases a c o h with h1 | ⟨m,ob,kvs,e,h1⟩
 ·exact b c o h1
 ·rcases b c _ h1 with h2 | ⟨_,_,_,e2,_⟩
  ·exact .inr ⟨m,ob,kvs,e,h2⟩
  ·cases e2
theorem FrM.at {M:Addr->Prop}{H H':Hp}(f:FrM M H H') {c:Addr}{o:HO}(h:H c=some o) (n:∀kvs,o≠.dK kvs):H' c=some o:=by
 rcases f c o h with h1 | ⟨_,ob,kvs,e,_⟩
 ·exact h1
 ·exact absurd e (n kvs)
theorem FrM.rd {M:Addr->Prop}{H H':Hp}(f:FrM M H H') {c:Addr}{kvs:List (Key×V)}(h:Rd H c (.dK kvs)):Rd H' c (.dK kvs):=by
 rcases h with h | ⟨o,h⟩
 ·rcases f c _ h with h1 | ⟨_,ob,kvs',e,h1⟩
  ·exact .inl h1
  ·cases e
   exact .inr ⟨ob,h1⟩
 ·exact .inr ⟨o,f.at h (by walk_at "w")⟩
noncomputable def jc (ns:List (Int×Int)) (y:Int):Int:=((ns.filter λq=>decide (q.1<=y)).map (·.2)).sum
theorem uJ:∀{ns:List (Int×Int)},(ns.map (·.1)).Nodup->∀{z:Int×Int},z∈ns->qW ns z.1=z.2
 | [],_,z,h=>by cases h
 | q::r,nd,z,h=>by
  rw [aN] at nd
  obtain ⟨h1,h2⟩:=List.nodup_cons.mp nd
  unfold qW
  rcases List.mem_cons.mp h with e | e
  ·rw [e,if_pos rfl]
  ·have ne:¬q.1=z.1:=λw=>h1 (by rw [w];exact bH e)
   rw [if_neg ne]
   exact uJ h2 e
theorem VM {ns:List (Int×Int)}{i:Nat}{q:Key×V}(h:(ns.map kvI)[i]? = some q):∃z,ns[i]? = some z/\q=kvI z:=by
 rw [av] at h
 cases e:ns[i]? with
 | none=>rw [e] at h;cases h
 | some z=>rw [e] at h;cases h;exact ⟨z,rfl,rfl⟩
theorem gS {a acc:Addr}{o:Obj}{ns:List (Int×Int)}{y:Int}{H:Hp}{R:Hp->Prop}(h:H a=some (.frz o (.dK (ns.map kvI)))) (nd:(ns.map (·.1)).Nodup) (hl:ns.length<=100) (hacc:H acc=none)
  (fin:∀H',H' acc=some (.lst (((ns.filter λq=>decide (q.1<=y)).map (·.2)).map V.int))->jn H H'->R H') :
  ∃W:Nat->Nat->L2.St->Hp->Prop,(∃m,W 0 m [none,some (.ref a),some (.int y)] (upd H acc (.lst [])))/\∀i m σ' H',W i m σ' H' ->
   ((Itd a o (ns.map kvI)).stop i H'/\R H')\/((Itd a o (ns.map kvI)).go i H'/\∃NX:L2.St->Hp->Prop,(∀σ2 H2,NX σ2 H2->∃m',m'<m/\W (i+1) m' σ2 H2) /\
    ∀x H2,(Itd a o (ns.map kvI)).yld i H' x H2->uh 0 x σ' H2 λσ3 H3=>Qm (tOp (rI0 λi j=>V.bl (decide (i<=j))) (Zd 0) (Zd 2)) σ3 H3 λok H4=>if ok=true then Wb (Zd 1) (Zd 0) σ3 H4 λv H5=>∃ys,H5 acc=some (.lst ys)/\ys.length<sizeLine/\NX σ3 (upd H5 acc (.lst (ys++[v]))) else NX σ3 H4):=by
 refine Yg (a:=a) (acc:=acc) (o:=o) (kvs:=ns.map kvI) (λi σ H'=>∃x:Option V,σ=[x,some (.ref a),some (.int y)]/\H' acc=some (.lst ((((ns.take i).filter λq=>decide (q.1<=y)).map (·.2)).map V.int))/\Ext acc H H') ⟨none,rfl,j5,Ext.put⟩ ?_ ?_ ?_
 ·rintro i σ H' hi ⟨x,rfl,h3,e3⟩
  exact e3 _ _ h (j1 h hacc)
 ·rintro i q σ H' hq ⟨x,rfl,h3,e3⟩
  obtain ⟨z,hz,rfl⟩:=VM hq
  have hm:=ax hz
  have hi:i<ns.length:=(List.getElem?_eq_some_iff.mp hz).1
  have hl2:((((ns.take i).filter λq=>decide (q.1<=y)).map (·.2)).map V.int).length<=100:=by
   rw [af,af]
   exact aF (bN _ _) (by rw [aJ];omega)
  have ha:=e3 _ _ h (j1 h hacc)
  show uh 0 (V.int z.1) _ _ _
  walk_at "r"
  refine qC (λle=>?_) (λle=>?_)
  ·refine ⟨_,rfl,_,rfl,a,V.int z.2,rfl,?_,_,h3,bR hl2 ⋯,_,rfl,?_,e3.trans Ext.put⟩
   ·have:=vg ns z.1 (bH hm)
    rw [uJ nd hm] at this
    rw [<- this]
    exact .inl ⟨_,.inl z.1,.inr ⟨o,ha⟩,rfl,rfl⟩
   ·rw [j5,bF,hz,eB,bK,dO (by rw [decide_eq_true le]),aB,aB]
    rfl
  ·refine ⟨_,rfl,?_,e3⟩
   rw [bF,hz,eB,bK,dN (by rw [decide_eq_false le];exact au),mn,aM]
   exact h3
 ·rintro σ H' ⟨x,rfl,h3,e3⟩
  rw [af,aW] at h3
  exact fin H' h3 λc u hc=>e3 c u hc (j1 hc hacc)
noncomputable def Jt:Sp:=λvs H Q _=>∃(M:Addr->Prop) (sd p q sg gl ll a:Addr) (lds:List Addr) (l y:Int) (ns:List (Int×Int)),vs=[.ref sd,.int l,.int y]/\H sd=some (.dK (scK p q sg gl ll))/\H ll=some (.lst (lds.map V.ref))/\0<=l/\lds[l.toNat]? = some a/\Rd H a (.dK (ns.map kvI))/\M a/\¬M sd/\ns.length<=100/\(ns.map (·.1)).Nodup/\(∀q∈ns,0<=q.2/\q.2<=9) /\
 ∀H',FrM M H H'->Q (.int (y+jc ns y)) H'
theorem wn:FnScope ["_law_scene_here","_law_lane","_law_year_here","_law_leaps"] ["_law_scene_here","_law_lane","_law_year_here"] (j8 yC):=by walk_at "s"
theorem UK {f:Addr}{fd:FuncData}(nb:Nb2 mg) (F:Fun K "_law_ride" "_law_ride" yC f fd):FnOk P w K mg base CX0 1 f fd ["_law_scene_here","_law_lane","_law_year_here"] Jt:=by
 refine F.ok wn (λvs H Q E h=>?_) (λcdv A outer s H vs Q E hr h=>?_)
 ·obtain ⟨M,sd,p,q,sg,gl,ll,a,lds,l,y,ns,rfl,_⟩:=h
  rfl
 ·obtain ⟨M,sd,p,q,sg,gl,ll,a,lds,l,y,ns,rfl,hsd,hll,l0,ha,hra,hM,nsd,h100,nd,h9,k⟩:=h
  refine ⟨_,(j4 (yW (i:=3) wn.nd rfl (iS rfl) (jo (jd K) (jJ (jR hr) (pv 0) jF (λ_ _=>rfl)) (pv 1) (λ_ _=>rfl)))
   (j9 (jk (jq jN (pv 2) (jf (km K rfl) rfl nb.b_sum sY (j0 (jY (osc:=(j8 yC)) (ON:=["_law_scene_here","_law_lane","_law_year_here","_law_leaps"]) (N:=["_law_when","_law_leaps","_law_year_here"]) (own:=1) (caps:=[3,2]) ⟨rfl,∅,∅,∅,rfl,∅⟩ rfl rfl rfl (wC (pv 3)) (λ_ _ _ _ _=>(jb (i:=0) (show bo (["_law_when","_law_leaps","_law_year_here"]:List Str) by decide +kernel) rfl (aP rfl))) (λ_ _ _ _ _=>(yQ (jz qE (pv 0) (pv 2) (jG _)))) (λ_ _ _ _ _=>(jJ (jR hr) (pv 1) (pv 0) (λ_ _=>rfl)))) j2)))))),?_⟩
  walk_at "r"
  refine ⟨sd,.ref ll,rfl,by rw [<- wY p q sg gl ll];exact qU.k (k:=.inr "leaps") hsd,?_⟩
  walk_at "r"
  refine ⟨_,_,_,_,rfl,rfl,SqL.of hll,qS l0 (v:=V.ref a) (by rw [av,ha];rfl),?_⟩
  walk_at "r"
  have fin:∀(H1:Hp),FrM M H H1->∀acc H2,H2 acc=some (.lst (((ns.filter λq=>decide (q.1<=y)).map (·.2)).map V.int))->jn H1 H2->gg [some (.ref sd),some (.int l),some (.int y),some (.ref a)] H2 λxs H3=>(∃(p:Addr) (ms:List Int),V.ref acc::xs=[V.ref p]/\SqL K H3 p (ms.map V.int)/\ms.length<=1000/\(∀n∈ms,0<=n/\n<=2 ^ 20)/\rI0 (λi j=>V.int (i+j)) (V.int y) (V.int ms.sum) H3 Q):=λH1 f1 acc H2 h2 s2=>by
   refine ⟨acc,_,rfl,SqL.of h2,?_,λn hn=>?_,?_⟩
   ·rw [af]
    exact aF (bN _ _) ()
   ·obtain ⟨z,hz,rfl⟩:=List.mem_map.mp hn
    have:=h9 z (List.mem_filter.mp hz).1
    exact ⟨this.1,oR this.2 ⋯⟩
   ·exact ⟨_,_,rfl,rfl,k H2 (f1.trans (FrM.of_same s2))⟩
  rcases hra with h | ⟨o,h⟩
  ·refine ⟨a,_,rfl,.inl ⟨h,λo acc hacc=>?_⟩⟩
   have f1:FrM M H (upd H a (.frz o (.dK (ns.map kvI)))):=λc u hc=>by
    by_cases e:c=a
    ·subst e
     rw [h] at hc
     cases hc
     exact .inr ⟨hM,o,_,rfl,j5⟩
    ·exact .inl (by rw [j6 e];exact hc)
   exact gS (a:=a) (o:=o) j5 nd h100 hacc λH2 h2 s2=>fin _ f1 acc H2 h2 s2
  ·refine ⟨a,_,rfl,.inr ⟨o,h,λacc hacc=>?_⟩⟩
   exact gS (a:=a) (o:=o) h nd h100 hacc λH2 h2 s2=>fin _ (FrM.of_same (jn.refl H)) acc H2 h2 s2
theorem ZU (y:Int):jc [] y=0:=rfl
theorem qe (q:Int×Int) (r:List (Int×Int)) (y:Int):jc (q::r) y=(if q.1<=y then q.2 else 0)+jc r y:=by
 unfold jc
 rw [List.filter_cons]
 by_cases h:q.1<=y
 ·rw [decide_eq_true h,if_pos rfl,if_pos h,aN,nB]
 ·rw [decide_eq_false h,if_neg au,if_neg h,eA]
theorem zu {ms ns:List (Int×Int)}(p:ms.Perm ns) (y:Int):jc ms y=jc ns y:=by
 induction p with
 | nil=>rfl
 | cons q _ ih=>rw [qe,qe,ih]
 | swap a b r=>rw [qe,qe,qe,qe];omega
 | trans _ _ a b=>rw [a,b]
theorem JX {ns:List (Int×Int)}(h:∀q∈ns,0<=q.2) (y:Int):0<=jc ns y:=by
 induction ns with
 | nil=>exact mU _
 | cons q r ih =>
  rw [qe]
  have:=h q (aI ..)
  have:=ih λz hz=>h z (aE _ hz)
  by_cases e:q.1<=y
  ·rw [if_pos e];omega
  ·rw [if_neg e];omega
theorem XN {ns:List (Int×Int)}{y:Int}(h:∀q∈ns,y<q.1):jc ns y=0:=by
 induction ns with
 | nil=>rfl
 | cons q r ih =>
  have a:=h q (aI ..)
  rw [qe,if_neg (),ih λz hz=>h z (aE _ hz)]
  rfl
theorem kT:∀(ms:List (Int×Int)) (st ad goal:Int),(∀q∈ms,st<=q.1)->(ms.map (·.1)).Pairwise (· <= ·)->st<=jp st ad ms goal
 | [],st,ad,goal,_,_=>by unfold jp;split <;> omega
 | q::r,st,ad,goal,h,p=>by
  unfold jp
  have a:=h q (aI ..)
  rw [aN,ft] at p
  by_cases e:goal-ad<q.1
  ·rw [if_pos e];split <;> omega
  ·rw [if_neg e]
   have:=kT r q.1 (ad+q.2) goal (λz hz=>p.1 _ (bH hz)) p.2
   omega
theorem J4:∀(ms:List (Int×Int)) (st ad goal y:Int),(∀q∈ms,st<=q.1/\0<=q.2)->(ms.map (·.1)).Pairwise (· < ·)->st<=y->(goal<=y+ad+jc ms y↔jp st ad ms goal<=y)
 | [],st,ad,goal,y,_,_,hy=>by rw [ZU];unfold jp;split <;> omega
 | q::r,st,ad,goal,y,h,p,hy=>by
  have a:=h q (aI ..)
  have hr:∀z∈r,0<=z.2:=λz hz=>(h z (aE _ hz)).2
  rw [aN,ft] at p
  have gt:∀z∈r,q.1<z.1:=λz hz=>p.1 _ (bH hz)
  have sn:=JX hr y
  rw [qe]
  unfold jp
  by_cases hq:q.1<=y
  ·rw [if_pos hq]
   by_cases e:goal-ad<q.1
   ·rw [if_pos e];split <;> omega
   ·rw [if_neg e]
    have ih:=J4 r q.1 (ad+q.2) goal y (λz hz=>⟨oS (gt z hz),hr z hz⟩) p.2 hq
    constructor
    ·intro z;exact ih.mp ()
    ·intro z;have:=ih.mpr z;omega
  ·rw [if_neg hq,XN λz hz=>by have:=gt z hz;omega]
   by_cases e:goal-ad<q.1
   ·rw [if_pos e];split <;> omega
   ·rw [if_neg e]
    have g:=kT r q.1 (ad+q.2) goal (λz hz=>oS (gt z hz)) (p.2.imp λh=>oS h)
    omega
theorem xB:∀{l:List Int},l.Pairwise (· <= ·)->l.Nodup->l.Pairwise (· < ·)
 | [],_,_=>.nil
 | x::r,p,n=>by
  rw [ft] at p ⊢
  obtain ⟨n1,n2⟩:=List.nodup_cons.mp n
  refine ⟨λy hy=>?_,xB p.2 n2⟩
  have:=p.1 y hy
  have:x≠y:=λe=>n1 (e ▸ hy)
  omega
noncomputable def ux (CY:Addr):Sp:=λvs H Q E=>∃y:Int,vs=[.int y]/\(0<=y->y<=10 ^ 40->Q .non H)/\(y<0\/10 ^ 40<y->E (.ref CY) none H)
theorem wT:FnScope ["year"] ["year"] (j8 zV):=by walk_at "s"
theorem kC {f CY:Addr}{fd:FuncData}{u0:Tok}(g_LAST_ASKED:mg "LAST_ASKED" = some (.int 10000000000000000000000000000000000000000 u0)) (e_BadYear:mg "BadYear" = some (.ref CY)) (x_BadYear:cZ K CY [.type "ValueError",.type "Exception",.type "BaseException",.type "object"] "ValueError.__new__" = true) (F:Fun K "check_asked" "check_asked" zV f fd):FnOk P w K mg base (CX1 P w) 1 f fd ["year"] (ux CY):=by
 refine Fun.okX F wT (λvs H Q E h=>?_) (λcdv A outer s H vs Q E hr h=>?_)
 ·obtain ⟨y,rfl,_⟩:=h
  rfl
 ·obtain ⟨y,rfl,k,kx⟩:=h
  refine ⟨_,(j9 (jU (xo (xU qE qE j7 (pv 0) (xl (v:=V.int 10000000000000000000000000000000000000000) rfl g_LAST_ASKED ⟨_,rfl⟩))) (j9 (xy bB x_BadYear e_BadYear rfl zd rfl (j0 jF j2))) jw)),?_⟩
  walk_at "r"
  refine qC (λh0=>?_) (λh0=>?_)
  ·walk_at "r"
   refine y3 (λh1=>?_) (λh1=>?_)
   ·walk_at "r"
    exact ⟨by show 1<=sizeLine;decide,kx (.inr ())⟩
   ·walk_at "r"
    exact k h0 h1
  ·walk_at "r"
   refine vt ?_
   walk_at "r"
   exact ⟨by show 1<=sizeLine;decide,kx (.inl ())⟩
noncomputable def wI:Sp:=λvs H Q _=>∃(p:Addr) (out:List V) (ms:List (Int×Int)) (y:Int),vs=[.ref p,.int y]/\H p=some (.lst out)/\qd H out ms/\ms.length<=100/\(∀q∈ms,0<=q.2/\q.2<=9)/\∀H',jn H H'->Q (.int (y+jc ms y)) H'
theorem Z4:FnScope ["surges","year"] ["surges","year"] (j8 vm):=by walk_at "s"
theorem Zk {f:Addr}{fd:FuncData}(nb:Nb2 mg) (F:Fun K "ride_by" "ride_by" vm f fd):FnOk P w K mg base CX0 1 f fd ["surges","year"] wI:=by
 refine F.ok Z4 (λvs H Q E h=>?_) (λcdv A outer s H vs Q E hr h=>?_)
 ·obtain ⟨p,out,ms,y,rfl,_⟩:=h
  rfl
 ·obtain ⟨p,out,ms,y,rfl,hp,hq,h100,h9,k⟩:=h
  have hlen:out.length=ms.length:=aK hq
  refine ⟨_,(j9 (jk (jq jN (pv 1) (jf (km K rfl) rfl nb.b_sum sY (j0 (jY (osc:=(j8 vm)) (ON:=["surges","year"]) (N:=["when","many","year"]) (own:=2) (caps:=[1]) ⟨rfl,∅,∅,∅,rfl,∅⟩ rfl rfl rfl (jP K (pv 0)) (λ_ _ _ _ _=>(qv (n:=2) K rfl (jm (jb (i:=0) (show bo (["when","many","year"]:List Str) by decide +kernel) rfl (aP rfl)) (jm (jb (i:=1) (show bo (["when","many","year"]:List Str) by decide +kernel) rfl (aP rfl)) qw)))) (λ_ _ _ _ _=>(yQ (jz qE (pv 0) (pv 2) (jG _)))) (λ_ _ _ _ _=>(pv 1))) j2))))),?_⟩
  walk_at "r"
  refine ⟨⟨_,SqL.of hp⟩,λacc hacc=>?_⟩
  refine qp (K:=K) (a:=p) (xs:=out) (acc:=acc) (λi σ H2=>∃x x2:Option V,σ=[x,x2,some (.int y)]/\H2 acc=some (.lst ((((ms.take i).filter λq=>decide (q.1<=y)).map (·.2)).map V.int))/\Ext acc H H2) ?_ ?_ ?_ ?_
  ·exact ⟨none,none,rfl,j5,Ext.put⟩
  ·rintro i σ H2 hi ⟨x,x2,rfl,h2,e2⟩
   exact SqL.of (e2 _ _ hp (j1 hp hacc))
  ·rintro i v σ H2 hv ⟨x,x2,rfl,h2,e2⟩
   obtain ⟨m,hm,b,rfl,hb⟩:=Paired.get hq hv
   have hi:=(List.getElem?_eq_some_iff.mp hm).1
   have hl2:((((ms.take i).filter λq=>decide (q.1<=y)).map (·.2)).map V.int).length<=100:=by
    rw [af,af]
    exact aF (bN _ _) (by rw [aJ];omega)
   walk_at "r"
   refine ⟨b,_,rfl,SqT.of (e2 _ _ hb (j1 hb hacc)),rfl,?_⟩
   refine ⟨_,_,rfl,_,_,rfl,rfl,?_⟩
   walk_at "r"
   refine qC (λle=>?_) (λle=>?_)
   ·walk_at "r"
    refine ⟨_,h2,bR hl2 ⋯,_,_,rfl,?_,e2.trans Ext.put⟩
    rw [j5,bF,hm,eB,bK,dO (by rw [decide_eq_true le]),aB,aB]
    rfl
   ·refine ⟨_,_,rfl,?_,e2⟩
    rw [bF,hm,eB,bK,dN (by rw [decide_eq_false le];exact au),mn,aM]
    exact h2
  ·rintro σ H2 ⟨x,x2,rfl,h2,e2⟩
   rw [hlen,aW] at h2
   walk_at "r"
   refine ⟨acc,_,rfl,SqL.of h2,?_,λn hn=>?_,?_⟩
   ·rw [af]
    exact aF (bN _ _) ()
   ·obtain ⟨z,hz,rfl⟩:=List.mem_map.mp hn
    have:=h9 z (List.mem_filter.mp hz).1
    exact ⟨this.1,oR this.2 ⋯⟩
   ·exact ⟨_,_,rfl,rfl,k H2 λc o hc=>e2 c o hc (j1 hc hacc)⟩
noncomputable def Y5 (g:IceG) (l:Int) (ns:List (Int×Int)):Prop:=0<=l/\l<(g.slopes.length:Int)/\(∃a,g.lds[l.toNat]? = some (a,ns.map kvI))/\(ns.map (·.1)).Nodup/\ns.length<64/\∀q∈ns,0<=q.2/\q.2<=9
noncomputable def Qg (C CN CY:Addr):Sp:=λvs H Q E=>∃(p:Addr) (g:IceG) (l y:Int),vs=[.ref p,.int l,.int y]/\IceAt C H p g/\g.lds.length=g.slopes.length/\(l<0\/(g.slopes.length:Int)<=l->E (.ref CN) none H) /\
 (0<=l->l<(g.slopes.length:Int)->∃ns,Y5 g l ns/\(∀H',jn H H'->y<0\/10 ^ 40<y->E (.ref CY) none H')/\∀H',jn H H'->0<=y->y<=10 ^ 40->Q (.int (y+jc ns y)) H')
theorem Jd:FnScope ["ice","lane","year","surges"] ["ice","lane","year"] (j8 wH):=by walk_at "s"
theorem Yc {f C CN CY:Addr}{fd:FuncData}(cl_Ice:Cls K C) (c_Ice__surges:CalMX P w K mg base 2 C "surges" ["self","lane"] (vf C CN)) (c_check_asked:CalX P w K mg base 1 "check_asked" ["year"] (ux CY)) (c_ride_by:Cal P w K mg base 1 "ride_by" ["surges","year"] wI) (F:Fun K "ridden" "ridden" wH f fd):FnOk P w K mg base (CX1 P w) 3 f fd ["ice","lane","year"] (Qg C CN CY):=by
 refine Fun.okX F Jd (λvs H Q E h=>?_) (λcdv A outer s H vs Q E hr h=>?_)
 ·obtain ⟨p,g,l,y,rfl,_⟩:=h
  rfl
 ·obtain ⟨p,g,l,y,rfl,I,hll,kx,k⟩:=h
  refine ⟨_,(j4 (jt 3 Jd.nd (y4 (pv 0) cl_Ice c_Ice__surges (hr.mono ⋯) qM (j0 (pv 1) j2)))
   (j4 (jM (zi c_check_asked (hr.mono ⋯) qM rfl (j0 (pv 2) j2)))
   (j9 (jk (je c_ride_by (hr.mono ⋯) rfl (j0 (pv 3) (j0 (pv 2) j2))))))),?_⟩
  walk_at "r"
  refine ⟨p,g.dx,_,rfl,I.ob,qT ∅,?_⟩
  walk_at "r"
  refine ⟨p,g,l,rfl,I,hll,λhb=>kx hb,λl0 l1=>?_⟩
  obtain ⟨ns,⟨_,_,⟨a,ha⟩,nd,h64,h9⟩,ky,k⟩:=k l0 l1
  refine ⟨a,ns,ha,nd,h64,λo H1 out ms ho ho1 hq s1 hp hs=>?_⟩
  walk_at "r"
  refine ⟨λy0 y1=>?_,λhb=>ky H1 s1 hb⟩
  walk_at "r"
  refine ⟨o,out,ms,y,rfl,ho1,hq,(by rw [hp.length_eq];omega),λq hq'=>h9 q (hp.mem_iff.mp hq'),λH2 s2=>?_⟩
  rw [zu hp]
  exact k H2 (s1.trans s2) y0 y1
noncomputable def kvA (z:Int×Addr):Key×V:=(.inl z.1,.ref z.2)
noncomputable def xK {α:Type}(l:List (Int×α)) (y:Int) (a:α):List (Int×α):=if (l.any λz=>decide (z.1=y))=true then l.map (λz=>if z.1=y then (z.1,a) else z) else l++[(y,a)]
theorem kE {α:Type}(f:α->V) (l:List (Int×α)) (y:Int) (a:α):qB (l.map λz=>((.inl z.1,f z.2):Key×V)) (.inl y) (f a)=(xK l y a).map λz=>((.inl z.1,f z.2):Key×V):=by
 have e:∀z:Int,decide ((dX z:Key)=dX y)=decide (z=y):=λz=>decide_eq_decide.mpr ⟨λh=>dR h,λh=>by rw [h]⟩
 have e1:((l.map λz=>((.inl z.1,f z.2):Key×V)).any λkv=>decide (kv.1=(dX y:Key)))=l.any λz=>decide (z.1=y):=by
  rw [List.any_map]
  congr 1
  funext z
  exact e z.1
 unfold qB xK
 rw [e1]
 by_cases h:(l.any λz=>decide (z.1=y))=true
 ·rw [if_pos h,if_pos h,bS,bS]
  refine dH λz _=>?_
  show (if (dX z.1:Key)=dX y then _ else _)=_
  by_cases hz:z.1=y
  ·rw [if_pos (by rw [hz])]
   show _=(λz:Int×α=>((.inl z.1,f z.2):Key×V)) (if z.1=y then (z.1,a) else z)
   rw [if_pos hz]
  ·rw [if_neg (λw=>hz (dR w))]
   show _=(λz:Int×α=>((.inl z.1,f z.2):Key×V)) (if z.1=y then (z.1,a) else z)
   rw [if_neg hz]
 ·rw [if_neg h,if_neg h,aB]
  rfl
theorem wE {α:Type}{l:List (Int×α)}{y:Int}{a:α}{z:Int×α}(h:z∈xK l y a):z∈l\/z=(y,a):=by
 unfold xK at h
 by_cases c:(l.any λz=>decide (z.1=y))=true
 ·rw [if_pos c] at h
  obtain ⟨u,hu,e⟩:=List.mem_map.mp h
  by_cases q:u.1=y
  ·rw [if_pos q,q] at e
   exact .inr e.symm
  ·rw [if_neg q] at e
   exact .inl (e ▸ hu)
 ·rw [if_neg c] at h
  rcases List.mem_append.mp h with q | q
  ·exact .inl q
  ·exact .inr (by simpa using q)
theorem um {α:Type}(l:List (Int×α)) (y:Int) (a:α):(xK l y a).length<=l.length+1:=by
 unfold xK
 split
 ·rw [af];omega
 ·rw [ak];exact aq _
theorem kL {α:Type}{l:List (Int×α)}{y:Int}{a:α}(h:(l.map (·.1)).Nodup):((xK l y a).map (·.1)).Nodup:=by
 unfold xK
 by_cases c:(l.any λz=>decide (z.1=y))=true
 ·rw [if_pos c,bS]
  have:(l.map ((λx=>x.1) ∘ λz=>if z.1=y then (z.1,a) else z))=l.map (·.1):=dH λz _=>by
   show (if z.1=y then (z.1,a) else z).1=z.1
   split <;> rfl
  rw [this]
  exact h
 ·rw [if_neg c,aB]
  refine wD h λz=>c ?_
  obtain ⟨u,hu,e⟩:=List.mem_map.mp z
  exact List.any_eq_true.mpr ⟨u,hu,decide_eq_true e⟩
structure ScN where
 p:Addr
 q:Addr
 sg:Addr
 gl:Addr
 ll:Addr
 xs:List V
 ys:List V
 zs:List V
 rs:List Rch
 ts:List T3
 ws:List (List Int)
 sk:List (Int×Addr)
 lds:List (Addr×List (Int×Int))
structure ScAt (H:Hp) (sd:Addr) (c:ScN):Prop where
 sd:H sd=some (.dK (scK c.p c.q c.sg c.gl c.ll))
 p:H c.p=some (.lst c.xs)
 rv:qc H c.xs c.rs
 q:H c.q=some (.lst c.ys)
 r3:jD H c.ys c.ts
 gl:H c.gl=some (.lst c.zs)
 gi:yD H c.zs (c.ws.map (ja c.rs))
 ll:H c.ll=some (.lst (c.lds.map λx=>V.ref x.1))
 sg:Rd H c.sg (.dK (c.sk.map kvA))
 sk:∀z∈c.sk,∃t,H z.2=some (yo t)/\good t=true
 ld:∀x∈c.lds,Rd H x.1 (.dK (x.2.map kvI))
structure ScOk (b:Addr) (c:ScN):Prop where
 gr:Grown c.rs
 l1:1<=c.rs.length
 l8:c.rs.length<=8
 t1:1<=c.ts.length
 t2:c.ts.length<=12
 tg:c.ts.all good=true
 ro:qf c.rs c.ws
 ldl:c.lds.length=c.ws.length
 nd:(c.lds.map (·.1)).Nodup
 ns:∀x∈c.lds,x.1≠c.sg
 pb:c.p≠b
 qb:c.q≠b
 gb:c.gl≠b
 lb:c.ll≠b
 zb:V.ref b∉c.zs
 k1:(c.sk.map (·.1)).Nodup
 k2:∀z∈c.sk,0<=z.1/\z.1<=99
 k3:c.sk.length<=10
 m1:∀x∈c.lds,(x.2.map (·.1)).Nodup
 m2:∀x∈c.lds,∀z∈x.2,0<=z.1/\z.1<=99/\1<=z.2/\z.2<=9
 m3:∀x∈c.lds,x.2.length<=10
noncomputable def Fr3 (N M:Addr->Prop) (H H':Hp):Prop:=∀c o,H c=some o->¬N c->H' c=some o\/(M c/\∃ob kvs,o = .dK kvs/\H' c=some (.frz ob (.dK kvs)))
theorem Fr3.at {N M:Addr->Prop}{H H':Hp}(f:Fr3 N M H H') {c:Addr}{o:HO}(h:H c=some o) (n:¬N c) (d:∀kvs,o≠.dK kvs):H' c=some o:=by
 rcases f c o h n with h1 | ⟨_,ob,kvs,e,_⟩
 ·exact h1
 ·exact absurd e (d kvs)
theorem Fr3.rd {N M:Addr->Prop}{H H':Hp}(f:Fr3 N M H H') {c:Addr}{kvs:List (Key×V)}(n:¬N c) (h:Rd H c (.dK kvs)):Rd H' c (.dK kvs):=by
 rcases h with h | ⟨o,h⟩
 ·rcases f c _ h n with h1 | ⟨_,ob,kvs',e,h1⟩
  ·exact .inl h1
  ·cases e
   exact .inr ⟨ob,h1⟩
 ·exact .inr ⟨o,f.at h n (by walk_at "w")⟩
theorem pmM {α β:Type}{F G:α->β->Prop}:∀{l₁:List α}{l₂:List β},cG F l₁ l₂->(∀v∈l₁,∀w,F v w->G v w)->cG G l₁ l₂
 | _,_,.nil,_=>.nil
 | _,_,.cons q r,h=>.cons (h _ (aI ..) _ q) (pmM r λv hv=>h v (aE _ hv))
theorem ScAt.keep {N M:Addr->Prop}{H H':Hp}{sd:Addr}{c:ScN}(S:ScAt H sd c) (f:Fr3 N M H H') (nT:∀a xs,H a=some (.tup xs)->¬N a) (nsd:¬N sd) (msd:¬M sd) (np:¬N c.p) (nq:¬N c.q) (ng:¬N c.gl) (nl:¬N c.ll) (nz:∀a,V.ref a∈c.zs->¬N a) (ns:¬N c.sg) (nd:∀x∈c.lds,¬N x.1):ScAt H' sd c:=by
 have t:∀a xs,H a=some (.tup xs)->H' a=some (.tup xs):=λa xs h=>f.at h (nT a xs h) (by walk_at "w")
 refine ⟨?_,f.at S.p np (by walk_at "w"),S.rv.keep t,f.at S.q nq (by walk_at "w"),S.r3.imp λ_ _ h=>t _ _ h,f.at S.gl ng (by walk_at "w"),pmM S.gi λv hv w ⟨a,ea,q⟩=>⟨a,ea,f.at q (nz a (ea ▸ hv)) (by walk_at "w")⟩,f.at S.ll nl (by walk_at "w"),f.rd ns S.sg,λz hz=>?_,λx hx=>f.rd (nd x hx) (S.ld x hx)⟩
 ·rcases f _ _ S.sd nsd with z | ⟨z,_⟩
  ·exact z
  ·exact absurd z msd
 ·obtain ⟨u,hu,g⟩:=S.sk z hz
  exact ⟨u,t _ _ hu,g⟩
theorem ScAt.same {H H':Hp}{sd:Addr}{c:ScN}(S:ScAt H sd c) (s:jn H H'):ScAt H' sd c :=
 S.keep (N:=λ_=>False) (M:=λ_=>False) (λc o h _=>.inl (s c o h)) (λ_ _ _ z=>z) id id id id id id (λ_ _=>id) id (λ_ _=>id)
theorem ScAt.ext {L b:Addr}{H H':Hp}{sd:Addr}{c:ScN}(S:ScAt H sd c) (O:ScOk b c) (B:qj L H b) (e:Ext b H H'):ScAt H' sd c:=by
 obtain ⟨_,_,_,_,_,hb,_⟩:=B
 have nr:∀{a:Addr} {kvs:List (Key×V)},Rd H a (.dK kvs)->¬a=b:=λh z=>by
  rcases h with h | ⟨o,h⟩
  ·exact absurd z (ji h hb (by walk_at "z"))
  ·exact absurd z (ji h hb (by walk_at "z"))
 exact S.keep (N:=λa=>a=b) (M:=λ_=>False) (λc o h n=>.inl (e c o h n)) (λa xs h z=>absurd z (ji h hb (by walk_at "z"))) (ji S.sd hb (by walk_at "z")) id O.pb O.qb O.gb O.lb (λa h z=>O.zb (z ▸ h)) (nr S.sg) λx hx=>nr (S.ld x hx)
noncomputable def ScN.D (c:ScN) (a:Addr):Prop:=a=c.sg\/∃x∈c.lds,x.1=a
theorem G6 {p q sg gl ll:Addr}{α:Type}{f:α->V}{l:List (Int×α)}:scK p q sg gl ll≠l.map λz=>((.inl z.1,f z.2):Key×V):=λz=>by
 cases l with
 | nil=>cases z
 | cons u r =>
  have:=congrArg (λl=>l.head?.map (·.1)) z
  cases this
theorem ZB {H:Hp}{sd a p q sg gl ll:Addr}{α:Type}{f:α->V}{l:List (Int×α)}(h:H sd=some (.dK (scK p q sg gl ll))) (r:Rd H a (.dK (l.map λz=>((.inl z.1,f z.2):Key×V)))):a≠sd:=λz=>by
 subst z
 rcases r with r | ⟨o,r⟩
 ·rw [r] at h
  have e:l.map (λz=>((.inl z.1,f z.2):Key×V))=scK p q sg gl ll:=by injection h with h;injection h
  exact G6 e.symm
 ·rw [r] at h
  cases h
theorem ScAt.nD {H:Hp}{sd:Addr}{c:ScN}(S:ScAt H sd c):¬c.D sd:=λz=>by
 rcases z with z | ⟨x,hx,e⟩
 ·exact ZB (f:=V.ref) S.sd S.sg z.symm
 ·exact ZB (f:=V.int) S.sd (S.ld x hx) e
structure ScB (L b:Addr) (H H2:Hp) (sd:Addr) (c:ScN):Prop where
 S:ScAt H2 sd c
 O:ScOk b c
 r1:H2 c.sg=some (.dK (c.sk.map kvA))
 r2:∀x∈c.lds,H2 x.1=some (.dK (x.2.map kvI))
 B:qj L H2 b
 X:Ext b H H2
 f1:H c.sg=none
 f2:∀x∈c.lds,H x.1=none
theorem ScB.take {L b:Addr}{H H2 H3:Hp}{sd:Addr}{c:ScN}(S:ScB L b H H2 sd c) (B:qj L H3 b) (X:Ext b H2 H3):ScB L b H H3 sd c:=by
 have hb:∃xs,H2 b=some (.lst xs):=by
  obtain ⟨_,_,_,_,_,hb,_⟩:=S.B
  exact ⟨_,hb⟩
 obtain ⟨_,hb⟩:=hb
 exact ⟨S.S.ext S.O S.B X,S.O,X _ _ S.r1 (ji S.r1 hb (by walk_at "z")),λx hx=>X _ _ (S.r2 x hx) (ji (S.r2 x hx) hb (by walk_at "z")),B,S.X.trans X,S.f1,S.f2⟩
theorem ScB.same {L b:Addr}{H H2 H3:Hp}{sd:Addr}{c:ScN}(S:ScB L b H H2 sd c) (s:jn H2 H3):ScB L b H H3 sd c:=S.take (S.B.same s) (Ext.of_same s)
theorem zk {L b:Addr}{Ha Hb:Hp}(B:qj L Ha b) (e:Ext b Ha Hb):jj Ha Hb:=by
 obtain ⟨ns,a,r,c,d,h1,_⟩:=B
 exact jj.lst e h1
theorem ScB.single {L b:Addr}{H H2:Hp}{sd t:Addr}{c:ScN}{y:Int}{r:T3}(S:ScB L b H H2 sd c) (y0:0<=y) (y1:y<=99) (ht:H2 t=some (yo r)) (hg:good r=true) (hl:c.sk.length+1<=10) :
  ScB L b H (upd H2 c.sg (.dK (qB (c.sk.map kvA) (.inl y) (.ref t)))) sd { c with sk:=xK c.sk y t }:=by
 have e:qB (c.sk.map kvA) (.inl y) (.ref t)=(xK c.sk y t).map kvA:=kE V.ref c.sk y t
 rw [e]
 have nT:∀{a:Addr} {o:HO},H2 a=some o->(∀kvs,o≠.dK kvs)->(upd H2 c.sg (.dK ((xK c.sk y t).map kvA))) a=some o:=λh n=>by rw [j6 (ji h S.r1 (n _))];exact h
 have sdn:sd≠c.sg:=(ZB (f:=V.ref) S.S.sd S.S.sg).symm
 have hb:∃xs,H2 b=some (.lst xs):=by
  obtain ⟨_,_,_,_,_,hb,_⟩:=S.B
  exact ⟨_,hb⟩
 obtain ⟨_,hb⟩:=hb
 have hL:∃xs,H2 L=some (.lst xs):=by
  obtain ⟨_,_,_,_,_,_,_,hL,_⟩:=S.B
  exact ⟨_,hL⟩
 obtain ⟨_,hL⟩:=hL
 refine ⟨⟨by rw [j6 sdn];exact S.S.sd,nT S.S.p (by walk_at "w"),S.S.rv.keep λ_ _ h=>nT h (by walk_at "w"),nT S.S.q (by walk_at "w"),S.S.r3.imp λ_ _ h=>nT h (by walk_at "w"),nT S.S.gl (by walk_at "w"),pmM S.S.gi λv hv w ⟨a,ea,q⟩=>⟨a,ea,nT q (by walk_at "w")⟩,nT S.S.ll (by walk_at "w"),.inl j5,λz hz=>?_,λx hx=>.inl (by rw [j6 (S.O.ns x hx)];exact S.r2 x hx)⟩,?_,j5,λx hx=>by rw [j6 (S.O.ns x hx)];exact S.r2 x hx,S.B.put (ji S.r1 hb (by walk_at "z")) (ji S.r1 hL (by walk_at "z")),λd o hd n=>?_,S.f1,S.f2⟩
 ·rcases wE hz with z | z
  ·obtain ⟨u,hu,g⟩:=S.S.sk _ z
   exact ⟨u,nT hu (by walk_at "w"),g⟩
  ·subst z
   exact ⟨r,nT ht (by walk_at "w"),hg⟩
 ·have O:=S.O
  exact ⟨O.gr,O.l1,O.l8,O.t1,O.t2,O.tg,O.ro,O.ldl,O.nd,O.ns,O.pb,O.qb,O.gb,O.lb,O.zb,kL O.k1,λz hz=>by
   rcases wE hz with q | q
   ·exact O.k2 z q
   ·subst q;exact ⟨y0,y1⟩,aF (um _ _ _) hl,O.m1,O.m2,O.m3⟩
 ·rw [j6 (j1 hd S.f1)]
  exact S.X d o hd n
theorem ug {α β:Type}{l:List (α×β)}{n:Nat}{a:α}{u v:β}(nd:(l.map (·.1)).Nodup) (hn:l[n]? = some (a,u)) {x:α×β}(hx:x∈l.set n (a,v)):x=(a,v)\/(x∈l/\x.1≠a):=by
 obtain ⟨i,hi,e⟩:=List.mem_iff_getElem.mp hx
 have hi':i<l.length:=by rw [ir] at hi;exact hi
 obtain ⟨hn1,hn2⟩:=List.getElem?_eq_some_iff.mp hn
 by_cases q:n=i
 ·subst q
  rw [List.getElem_set_self] at e
  exact .inl e.symm
 ·rw [List.getElem_set_ne q] at e
  refine .inr ⟨e ▸ bY hi',λz=>q ?_⟩
  have h1:(l.map (·.1))[n]'(by rw [af];exact hn1)=(l.map (·.1))[i]'(by rw [af];exact hi'):=by
   rw [cK,cK,hn2,e,z]
  rcases Nat.lt_trichotomy n i with g | g | g
  ·exact absurd h1 (List.pairwise_iff_getElem.mp nd n i _ _ g)
  ·exact g
  ·exact absurd h1.symm (List.pairwise_iff_getElem.mp nd i n _ _ g)
theorem ZI {α β:Type}{l:List (α×β)}{n:Nat}{a:α}{u v:β}(hn:l[n]? = some (a,u)):(l.set n (a,v)).map (·.1)=l.map (·.1):=by
 obtain ⟨hn1,hn2⟩:=List.getElem?_eq_some_iff.mp hn
 rw [List.map_set]
 refine fS λi=>?_
 rw [fV]
 by_cases q:n=i
 ·subst q
  rw [if_pos rfl,if_pos (by rw [af];exact hn1),av,hn]
  rfl
 ·rw [if_neg q]
theorem ScB.leap {L b:Addr}{H H2:Hp}{sd a:Addr}{c:ScN}{n:Nat}{y m:Int}{ns:List (Int×Int)}(S:ScB L b H H2 sd c) (hn:c.lds[n]? = some (a,ns)) (y0:0<=y) (y1:y<=99) (m0:1<=m) (m1:m<=9) (hl:ns.length+1<=10) :
  ScB L b H (upd H2 a (.dK (qB (ns.map kvI) (.inl y) (.int m)))) sd { c with lds:=c.lds.set n (a,xK ns y m) }:=by
 have e:qB (ns.map kvI) (.inl y) (.int m)=(xK ns y m).map kvI:=kE V.int ns y m
 rw [e]
 have hm:=ax hn
 have ra:=S.r2 _ hm
 have nT:∀{d:Addr} {o:HO},H2 d=some o->(∀kvs,o≠.dK kvs)->(upd H2 a (.dK ((xK ns y m).map kvI))) d=some o:=λh n=>by rw [j6 (ji h ra (n _))];exact h
 have sdn:sd≠a:=(ZB (f:=V.int) S.S.sd (S.S.ld _ hm)).symm
 have hb:∃xs,H2 b=some (.lst xs):=by
  obtain ⟨_,_,_,_,_,hb,_⟩:=S.B
  exact ⟨_,hb⟩
 obtain ⟨_,hb⟩:=hb
 have hL:∃xs,H2 L=some (.lst xs):=by
  obtain ⟨_,_,_,_,_,_,_,hL,_⟩:=S.B
  exact ⟨_,hL⟩
 obtain ⟨_,hL⟩:=hL
 have fs:=ZI (v:=xK ns y m) hn
 have fs2:(c.lds.set n (a,xK ns y m)).map (λx=>V.ref x.1)=c.lds.map λx=>V.ref x.1:=by
  have:=congrArg (rR V.ref) fs
  rw [bS,bS] at this
  exact this
 have sg:c.sg≠a:=(S.O.ns _ hm).symm
 have r2:∀x∈c.lds.set n (a,xK ns y m),(upd H2 a (.dK ((xK ns y m).map kvI))) x.1=some (.dK (x.2.map kvI)):=λx hx=>by
  rcases ug S.O.nd hn hx with z | ⟨z,w⟩
  ·subst z
   exact j5
  ·rw [j6 w]
   exact S.r2 x z
 have mem:∀x∈c.lds.set n (a,xK ns y m),∃x'∈c.lds,x'.1=x.1:=λx hx=>by
  have:x.1∈(c.lds.set n (a,xK ns y m)).map (·.1):=bH hx
  rw [fs] at this
  exact List.mem_map.mp this
 have O:=S.O
 refine ⟨⟨by rw [j6 sdn];exact S.S.sd,nT S.S.p (by walk_at "w"),S.S.rv.keep λ_ _ h=>nT h (by walk_at "w"),nT S.S.q (by walk_at "w"),S.S.r3.imp λ_ _ h=>nT h (by walk_at "w"),nT S.S.gl (by walk_at "w"),pmM S.S.gi λv hv w ⟨a,ea,q⟩=>⟨a,ea,nT q (by walk_at "w")⟩,?_,.inl (by show upd _ _ _ c.sg=_;rw [j6 sg];exact S.r1),λz hz=>?_,λx hx=>.inl (r2 x hx)⟩,⟨O.gr,O.l1,O.l8,O.t1,O.t2,O.tg,O.ro,?_,?_,?_,O.pb,O.qb,O.gb,O.lb,O.zb,O.k1,O.k2,O.k3,?_,?_,?_⟩,(by show upd _ _ _ c.sg=_;rw [j6 sg];exact S.r1),r2,S.B.put (ji ra hb (by walk_at "z")) (ji ra hL (by walk_at "z")),λd o hd n=>?_,S.f1,?_⟩
 ·show _=some (HO.lst ((c.lds.set n (a,xK ns y m)).map λx=>V.ref x.1))
  rw [fs2]
  exact nT S.S.ll (by walk_at "w")
 ·obtain ⟨u,hu,g⟩:=S.S.sk _ hz
  exact ⟨u,nT hu (by walk_at "w"),g⟩
 ·show (c.lds.set n (a,xK ns y m)).length=_
  rw [ir]
  exact O.ldl
 ·show ((c.lds.set n (a,xK ns y m)).map (·.1)).Nodup
  rw [fs]
  exact O.nd
 ·intro x hx
  obtain ⟨x',h1,h2⟩:=mem x hx
  rw [<- h2]
  exact O.ns x' h1
 ·intro x hx
  rcases ug S.O.nd hn hx with z | ⟨z,w⟩
  ·subst z;exact kL (O.m1 _ hm)
  ·exact O.m1 x z
 ·intro x hx
  rcases ug S.O.nd hn hx with z | ⟨z,w⟩
  ·subst z
   intro u hu
   rcases wE hu with q | q
   ·exact O.m2 _ hm u q
   ·subst q;exact ⟨y0,y1,m0,m1⟩
  ·exact O.m2 x z
 ·intro x hx
  rcases ug S.O.nd hn hx with z | ⟨z,w⟩
  ·subst z;exact aF (um _ _ _) hl
  ·exact O.m3 x z
 ·rw [j6 (j1 hd (S.f2 _ hm))]
  exact S.X d o hd n
 ·intro x hx
  obtain ⟨x',h1,h2⟩:=mem x hx
  rw [<- h2]
  exact S.f2 x' h1
theorem put4 {p q sg gl:Addr}:qB (xg [] [(.inr "reaches",.ref p),(.inr "rows",.ref q),(.inr "single",.ref sg)]) (.inr "grounds") (.ref gl)=[((.inr "reaches",.ref p):Key×V),(.inr "rows",.ref q),(.inr "single",.ref sg),(.inr "grounds",.ref gl)]:=by
 have e1:(qB [] (.inr "reaches") (.ref p):List (Key×V))=[(.inr "reaches",.ref p)]:=zY _ yO
 have e2:qB [((.inr "reaches",.ref p):Key×V)] (.inr "rows") (.ref q)=[(.inr "reaches",.ref p),(.inr "rows",.ref q)]:=zY _ ((ju (show (bh (aj "reaches"):Key)≠bh (aj "rows") by decide +kernel)).trans yO)
 have e3:qB [((.inr "reaches",.ref p):Key×V),(.inr "rows",.ref q)] (.inr "single") (.ref sg)=[(.inr "reaches",.ref p),(.inr "rows",.ref q),(.inr "single",.ref sg)]:=zY _ ((ju (show (bh (aj "reaches"):Key)≠bh (aj "single") by decide +kernel)).trans ((ju (show (bh (aj "rows"):Key)≠bh (aj "single") by decide +kernel)).trans yO))
 have e4:qB [((.inr "reaches",.ref p):Key×V),(.inr "rows",.ref q),(.inr "single",.ref sg)] (.inr "grounds") (.ref gl)=[((.inr "reaches",.ref p):Key×V),(.inr "rows",.ref q),(.inr "single",.ref sg),(.inr "grounds",.ref gl)]:=zY _ ((ju (show (bh (aj "reaches"):Key)≠bh (aj "grounds") by decide +kernel)).trans ((ju (show (bh (aj "rows"):Key)≠bh (aj "grounds") by decide +kernel)).trans ((ju (show (bh (aj "single"):Key)≠bh (aj "grounds") by decide +kernel)).trans yO)))
 have e:xg [] [((.inr "reaches",.ref p):Key×V),(.inr "rows",.ref q),(.inr "single",.ref sg)]=[(.inr "reaches",.ref p),(.inr "rows",.ref q),(.inr "single",.ref sg)]:=by
  show qB (qB (qB ([]:List (Key×V)) (.inr "reaches") (.ref p)) (.inr "rows") (.ref q)) (.inr "single") (.ref sg)=_
  rw [e1,e2,e3]
 rw [e,e4]
theorem put5 {p q sg gl ll:Addr}:qB [((.inr "reaches",.ref p):Key×V),(.inr "rows",.ref q),(.inr "single",.ref sg),(.inr "grounds",.ref gl)] (.inr "leaps") (.ref ll)=scK p q sg gl ll :=
 zY _ ((ju (show (bh (aj "reaches"):Key)≠bh (aj "leaps") by decide +kernel)).trans ((ju (show (bh (aj "rows"):Key)≠bh (aj "leaps") by decide +kernel)).trans ((ju (show (bh (aj "single"):Key)≠bh (aj "leaps") by decide +kernel)).trans ((ju (show (bh (aj "grounds"):Key)≠bh (aj "leaps") by decide +kernel)).trans yO))))
theorem QR (p q sg gl:Addr):jV [((.inr "reaches",.ref p):Key×V),(.inr "rows",.ref q),(.inr "single",.ref sg),(.inr "grounds",.ref gl)] (.inr "grounds")=some (.ref gl):=(ju (show (bh (aj "reaches"):Key)≠bh (aj "grounds") by decide +kernel)).trans ((ju (show (bh (aj "rows"):Key)≠bh (aj "grounds") by decide +kernel)).trans ((ju (show (bh (aj "single"):Key)≠bh (aj "grounds") by decide +kernel)).trans xh))
theorem Zs {rs:List Rch}(G:Grown rs):∀r∈rs,r.2.length<=12:=λr hr=>by
 obtain ⟨i,hi,e⟩:=List.mem_iff_getElem.mp hr
 have:=JI G.ok (aa hi)
 rw [e] at this
 unfold okR at this
 rw [bf,bf] at this
 have:=of_decide_eq_true this.1.2
 omega
theorem US {v:Int}(a:0<=v) (b:v<3):∃n,atI [V.int 1,V.int 4,V.int 9] v=some (V.int n)/\0<n/\n<=9:=by
 have h:v=0\/v=1\/v=2:=()
 rcases h with rfl | rfl | rfl
 ·exact ⟨1,rfl,(),()⟩
 ·exact ⟨4,rfl,(),()⟩
 ·exact ⟨9,rfl,(),()⟩
theorem Uu {v:Int}(a:0<=v) (b:v<3):∃n,atI [V.int 1,V.int 3,V.int 7] v=some (V.int n)/\0<n/\n<=7:=by
 have h:v=0\/v=1\/v=2:=()
 rcases h with rfl | rfl | rfl
 ·exact ⟨1,rfl,(),()⟩
 ·exact ⟨3,rfl,(),()⟩
 ·exact ⟨7,rfl,(),()⟩
theorem GU {v:Int}(a:0<=v) (b:v<2):∃n,atI [V.int 2,V.int 9] v=some (V.int n)/\0<n/\n<=9:=by
 have h:v=0\/v=1:=()
 rcases h with rfl | rfl
 ·exact ⟨2,rfl,(),()⟩
 ·exact ⟨9,rfl,(),()⟩
theorem J6 {rs:List Rch}(L:xq rs) (h:1<=rs.length):1<=(js rs).length:=by
 have:(rs.length-1)∈js rs:=by
  refine List.mem_filter.mpr ⟨List.mem_range.mpr (),?_⟩
  unfold jQ
  rw [decide_eq_false]
  ·rfl
  ·intro z
   have:=XG L z
   omega
 exact fQ this
noncomputable def ZC:Sp:=λvs H Q _=>∃(L b:Addr),vs=[.ref b]/\qj L H b/\∀sd H' c,qj L H' b->Ext b H H'->ScAt H' sd c->ScOk b c->Q (.ref sd) H'
theorem x4:FnScope ["_law_box_here","_law_reaches_here","_law_scene_here","_law_turn","_law_lane"] ["_law_box_here"] (j8 xT):=by walk_at "s"
theorem Vn {f:Addr}{fd:FuncData}(nb:Nb2 mg) (c_law_take:Cal P w K mg base 2 "_law_take" ["_law_box_here","_law_size"] xP) (c_law_reaches:Cal P w K mg base 4 "_law_reaches" ["_law_box_here"] wQ) (c_law_round:Cal P w K mg base 4 "_law_round" ["_law_box_here"] w9) (c_law_ground:Cal P w K mg base 1 "_law_ground" ["_law_reaches_here","_law_road"] (Q9 K)) (c_law_roads:Cal P w K mg base 1 "_law_roads" ["_law_reaches_here"] (Qz K)) (c_law_year:Cal P w K mg base 3 "_law_year" ["_law_box_here"] U5) (c_law_weather:Cal P w K mg base 3 "_law_weather" ["_law_box_here"] uS)
  (F:Fun K "_law_scene" "_law_scene" xT f fd):FnOk P w K mg base CX0 5 f fd ["_law_box_here"] ZC:=by
 refine F.ok x4 (λvs H Q E h=>?_) (λcdv A outer s H vs Q E hr h=>?_)
 ·obtain ⟨L,b,rfl,_⟩:=h
  rfl
 ·obtain ⟨L,b,rfl,B,k⟩:=h
  refine ⟨_,(j4 (yW (i:=1) x4.nd rfl (iS rfl) (je c_law_reaches (hr.mono ⋯) rfl (j0 (pv 0) j2)))
   (j4 (jt 2 x4.nd (U6 (k9 jF (pv 1) (k9 jF (je c_law_round (hr.mono ⋯) rfl (j0 (pv 0) j2)) (k9 jF y7 U8))) rfl rfl (λz=>by cases z) ⋯))
   (j4 (zf (jR hr) (pv 2) jF (jY (osc:=(j8 xT)) (ON:=["_law_box_here","_law_reaches_here","_law_scene_here","_law_turn","_law_lane"]) (N:=["_law_road","_law_reaches_here"]) (own:=1) (caps:=[1]) ⟨rfl,∅,∅,∅,rfl,∅⟩ rfl rfl rfl (jP K (je c_law_roads (hr.mono ⋯) rfl (j0 (pv 1) j2))) (λ_ _ _ _ _=>(jb (i:=0) (show bo (["_law_road","_law_reaches_here"]:List Str) by decide +kernel) rfl (aP rfl))) (λ_ _ _ _ _=>jK) (λ_ _ _ _ _=>(je c_law_ground (hr.mono ⋯) rfl (j0 (pv 1) (j0 (pv 0) j2))))) rfl)
   (JL (zf (jR hr) (pv 2) jF (jY (osc:=(j8 xT)) (ON:=["_law_box_here","_law_reaches_here","_law_scene_here","_law_turn","_law_lane"]) (N:=["_law_ground_here"]) (own:=1) (caps:=[]) ⟨rfl,∅,∅,∅,rfl,∅⟩ rfl rfl rfl (jP K (jJ (jR hr) (pv 2) jF (λ_ _=>rfl))) (λ_ _ _ _ _=>(jb (i:=0) (show bo (["_law_ground_here"]:List Str) by decide +kernel) rfl (aP rfl))) (λ_ _ _ _ _=>jK) (λ_ _ _ _ _=>y7)) rfl)
   (JL (qt aV rfl (qh rfl nb.b_range (j0 (je c_law_take (hr.mono ⋯) rfl (j0 (pv 0) (j0 (jo (jd K) (jL (j0 j7 (j0 j7 (j0 j7 j2)))) (je c_law_take (hr.mono ⋯) rfl (j0 (pv 0) (j0 j7 j2))) (λ_ _=>rfl)) j2))) j2)) (jb (i:=3) x4.nd rfl (aP rfl)) (j9 (zf (jR hr) (jJ (jR hr) (pv 2) jF (λ_ _=>rfl)) (je c_law_year (hr.mono ⋯) rfl (j0 (pv 0) j2)) (je c_law_weather (hr.mono ⋯) rfl (j0 (pv 0) j2)) rfl)))
   (j4 (qt aV rfl (qh rfl nb.b_range (j0 (je c_law_take (hr.mono ⋯) rfl (j0 (pv 0) (j0 (jo (jd K) (jL (j0 j7 (j0 j7 (j0 j7 j2)))) (je c_law_take (hr.mono ⋯) rfl (j0 (pv 0) (j0 j7 j2))) (λ_ _=>rfl)) j2))) j2)) (jb (i:=3) x4.nd rfl (aP rfl)) (j4 (jt 4 x4.nd (je c_law_take (hr.mono ⋯) rfl (j0 (pv 0) (j0 (jf (jh K) rfl nb.b_len aT (j0 (jJ (jR hr) (pv 2) jF (λ_ _=>rfl)) j2)) j2))))
   (j9 (zf (jR hr) (jo (jd K) (jJ (jR hr) (pv 2) jF (λ_ _=>rfl)) (pv 4) (λ_ _=>rfl)) (je c_law_year (hr.mono ⋯) rfl (j0 (pv 0) j2)) (jq jN j7 (je c_law_take (hr.mono ⋯) rfl (j0 (pv 0) (j0 (jo (jd K) (jL (j0 j7 (j0 j7 j2))) (je c_law_take (hr.mono ⋯) rfl (j0 (pv 0) (j0 j7 j2))) (λ_ _=>rfl)) j2)))) rfl))))
   (j9 (jk (pv 2))))))))),?_⟩
  walk_at "r"
  refine ⟨L,b,rfl,B,λp H1 xs rs B1 X1 hp hp1 r1 g1 l1 l8=>?_⟩
  have pb:p≠b:=B.ne hp
  walk_at "r"
  intro sd hsd
  have sdb:sd≠b:=B1.ne hsd
  have sd0:H sd=none:=X1.free hsd sdb
  walk_at "r"
  have Ba:qj L (upd H1 sd (.dK [])) b:=B1.put sdb (B1.neL hsd)
  refine ⟨L,b,rfl,Ba,λq Hb ys ts Bb Xb hq hqb r3b ht12 htg=>?_⟩
  have qb:q≠b:=Ba.ne hq
  have qsd:q≠sd:=λz=>by rw [z,j5] at hq;cases hq
  have sdB:Hb sd=some (.dK []):=Xb _ _ j5 sdb
  have pB:Hb p=some (.lst xs):=Xb _ _ (by rw [j6 (j1 hp1 hsd)];exact hp1) pb
  have rB:qc Hb xs rs:=(r1.keep (jj.same (jn.new hsd))).keep (zk Ba Xb)
  have XB:Ext b H Hb:=(X1.trans (Ext.new hsd)).trans Xb
  walk_at "r"
  intro sg hsg
  have sgb:sg≠b:=Bb.ne hsg
  have sg0:H sg=none:=XB.free hsg sgb
  have sgsd:sg≠sd:=(j1 sdB hsg).symm
  walk_at "r"
  refine ⟨by rw [j6 sgsd.symm];exact sdB,[(.inr "reaches",.ref p),(.inr "rows",.ref q),(.inr "single",.ref sg)],rfl,by show 3<=15;decide,?_⟩
  have sC:jn Hb (upd Hb sg (.dK [])):=jn.new hsg
  have nD:∀{a:Addr} {o:HO},Hb a=some o->a≠sd->(upd (upd Hb sg (.dK [])) sd (.dK (xg [] [(.inr "reaches",.ref p),(.inr "rows",.ref q),(.inr "single",.ref sg)]))) a=some o:=λh n=>by rw [j6 n];exact sC _ _ h
  have dD:(upd (upd Hb sg (.dK [])) sd (.dK (xg [] [(.inr "reaches",.ref p),(.inr "rows",.ref q),(.inr "single",.ref sg)]))) sd=some (.dK (xg [] [(.inr "reaches",.ref p),(.inr "rows",.ref q),(.inr "single",.ref sg)])):=j5
  have pD:=nD pB (ji pB sdB (by walk_at "z"))
  have rD:qc (upd (upd Hb sg (.dK [])) sd (.dK (xg [] [(.inr "reaches",.ref p),(.inr "rows",.ref q),(.inr "single",.ref sg)]))) xs rs:=rB.keep λ_ _ h=>nD h (ji h sdB (by walk_at "z"))
  have qD:=nD hqb qsd
  have r3D:jD (upd (upd Hb sg (.dK [])) sd (.dK (xg [] [(.inr "reaches",.ref p),(.inr "rows",.ref q),(.inr "single",.ref sg)]))) ys ts:=r3b.imp λ_ _ h=>nD h (ji h sdB (by walk_at "z"))
  have sgD:(upd (upd Hb sg (.dK [])) sd (.dK (xg [] [(.inr "reaches",.ref p),(.inr "rows",.ref q),(.inr "single",.ref sg)]))) sg=some (.dK []):=by rw [j6 sgsd];exact j5
  have BD:qj L (upd (upd Hb sg (.dK [])) sd (.dK (xg [] [(.inr "reaches",.ref p),(.inr "rows",.ref q),(.inr "single",.ref sg)]))) b:=(Bb.same sC).put sdb (B1.neL hsd)
  have XD:Ext b H (upd (upd Hb sg (.dK [])) sd (.dK (xg [] [(.inr "reaches",.ref p),(.inr "rows",.ref q),(.inr "single",.ref sg)]))):=λc o h n=>nD (XB c o h n) (j1 h sd0)
  clear nD sC hsg sdB pB rB XB hqb r3b Bb Xb hq Ba
  generalize (upd (upd Hb sg (.dK [])) sd (.dK (xg [] [(.inr "reaches",.ref p),(.inr "rows",.ref q),(.inr "single",.ref sg)])))=Hd at *
  have Ld:=qk g1.ok
  walk_at "r"
  refine ⟨p,xs,rs,rfl,pD,rD,Ld,(),λl He out ws hl hle w1 hR s1=>?_⟩
  walk_at "r"
  refine ⟨⟨_,SqL.of hle⟩,λgl hgl=>?_⟩
  have hlw:out.length=ws.length:=aK w1
  have hws:ws.length<=6:=by rw [hR.length];exact g1.heads
  have h100:∀r∈rs,r.2.length<=100:=λr hr=>aF (Zs g1 r hr) ⋯
  have BE:=BD.same s1
  have glb:gl≠b:=BE.ne hgl
  refine qp (K:=K) (a:=l) (xs:=out) (acc:=gl) (λi σ H2=>∃(x:Option V) (zs:List V),σ=[x,some (.ref p)]/\H2 gl=some (.lst zs)/\zs.length=i/\cG (λv (w:List Int)=>∃a,v=V.ref a/\H2 a=some (.lst (w.map V.int))/\He a=none/\a≠gl) zs ((ws.take i).map (ja rs))/\Ext gl He H2) ?_ ?_ ?_ ?_
  ·exact ⟨none,[],rfl,j5,rfl,.nil,Ext.put⟩
  ·rintro i σ H2 hi ⟨x,zs,rfl,h2,hz,r2,e2⟩
   exact SqL.of (e2 _ _ hle (j1 hle hgl))
  ·rintro i v σ H2 hv ⟨x,zs,rfl,h2,hz,r2,e2⟩
   obtain ⟨wy,hwy,a,rfl,ha1⟩:=Paired.get w1 hv
   have hi:=(List.getElem?_eq_some_iff.mp hwy).1
   obtain ⟨x',hx',ewy⟩:=hR.mem (ax hwy)
   have ha2:=e2 _ _ ha1 (j1 ha1 hgl)
   have hr1:=s1 _ _ pD
   have hl':=ut Ld x' (xx hx')
   have:=xx hx'
   walk_at "r"
   refine ⟨p,a,xs,rs,wy,rfl,e2 _ _ hr1 (j1 hr1 hgl),(rD.keep (jj.same s1)).keep (jj.new e2 hgl),h100,ha2,by rw [ewy];exact xZ Ld x' (xx hx'),by rw [ewy];omega,λt H3 ht ht3 s3=>?_⟩
   have ta:t≠gl:=(j1 h2 ht).symm
   refine ⟨zs,s3 _ _ h2,jg (),some (.ref a),zs++[.ref t],rfl,j5,by rw [ak,hz];rfl,?_,λc o hc n=>by rw [j6 n];exact s3 _ _ (e2 c o hc n)⟩
   rw [qH (ja rs) ws i wy hwy]
   exact bL (Paired.mapP r2 λv wy ⟨a,e,ha,h0,na⟩=>⟨a,e,by rw [j6 na];exact s3 _ _ ha,h0,na⟩) ⟨t,rfl,by rw [j6 ta];exact ht3,e2.free ht ta,ta⟩
  rintro σ H2 ⟨x,zs,rfl,h2,hz,r2,e2⟩
  rw [hlw,aW] at r2
  have gi2:yD H2 zs (ws.map (ja rs)):=Paired.mapP r2 λv wy ⟨a,e,ha,h0,na⟩=>⟨a,e,ha⟩
  have zb:V.ref b∉zs:=λz=>by
   obtain ⟨_,a,e,_,h0,_⟩:=pm r2 _ z
   cases e
   exact absurd rfl (BE.ne h0)
  have s2:jn Hd H2:=λc o hc=>e2 _ _ (s1 _ _ hc) (j1 (s1 _ _ hc) hgl)
  have gl0:Hd gl=none:=s1.free hgl
  walk_at "r"
  refine ⟨sd,_,rfl,vF.k (k:=.inr "grounds") (s2 _ _ dD) (jg (aF (zW _ _) (by show 0+3<=1000;decide))),?_⟩
  rw [put4]
  have nF:∀{a:Addr} {o:HO},H2 a=some o->(∀kvs,o≠.dK kvs)->(upd H2 sd (.dK [((.inr "reaches",.ref p):Key×V),(.inr "rows",.ref q),(.inr "single",.ref sg),(.inr "grounds",.ref gl)])) a=some o:=λh n=>by rw [j6 (ji h (s2 _ _ dD) (n _))];exact h
  have dF:(upd H2 sd (.dK [((.inr "reaches",.ref p):Key×V),(.inr "rows",.ref q),(.inr "single",.ref sg),(.inr "grounds",.ref gl)])) sd=some (.dK [((.inr "reaches",.ref p):Key×V),(.inr "rows",.ref q),(.inr "single",.ref sg),(.inr "grounds",.ref gl)]):=j5
  have pF:=nF (s2 _ _ pD) (by walk_at "w")
  have qF:=nF (s2 _ _ qD) (by walk_at "w")
  have rF:qc (upd H2 sd (.dK [((.inr "reaches",.ref p):Key×V),(.inr "rows",.ref q),(.inr "single",.ref sg),(.inr "grounds",.ref gl)])) xs rs:=rD.keep λ_ _ h=>nF (s2 _ _ h) (by walk_at "w")
  have r3F:jD (upd H2 sd (.dK [((.inr "reaches",.ref p):Key×V),(.inr "rows",.ref q),(.inr "single",.ref sg),(.inr "grounds",.ref gl)])) ys ts:=r3D.imp λ_ _ h=>nF (s2 _ _ h) (by walk_at "w")
  have gF:=nF h2 (by walk_at "w")
  have giF:yD (upd H2 sd (.dK [((.inr "reaches",.ref p):Key×V),(.inr "rows",.ref q),(.inr "single",.ref sg),(.inr "grounds",.ref gl)])) zs (ws.map (ja rs)):=Paired.mapP gi2 λv wy ⟨a,e,ha⟩=>⟨a,e,nF ha (by walk_at "w")⟩
  have sgF:(upd H2 sd (.dK [((.inr "reaches",.ref p):Key×V),(.inr "rows",.ref q),(.inr "single",.ref sg),(.inr "grounds",.ref gl)])) sg=some (.dK []):=by rw [j6 sgsd];exact s2 _ _ sgD
  have BF:qj L (upd H2 sd (.dK [((.inr "reaches",.ref p):Key×V),(.inr "rows",.ref q),(.inr "single",.ref sg),(.inr "grounds",.ref gl)])) b:=(BD.same s2).put sdb (B1.neL hsd)
  have XF:Ext b H (upd H2 sd (.dK [((.inr "reaches",.ref p):Key×V),(.inr "rows",.ref q),(.inr "single",.ref sg),(.inr "grounds",.ref gl)])):=λc o h n=>by rw [j6 (j1 h sd0)];exact s2 _ _ (XD c o h n)
  clear nF gi2 s2 h2 r2 e2 BE hgl s1 w1 hle hl pD rD qD r3D sgD BD XD dD h100
  generalize (upd H2 sd (.dK [((.inr "reaches",.ref p):Key×V),(.inr "rows",.ref q),(.inr "single",.ref sg),(.inr "grounds",.ref gl)]))=Hf at *
  have hzw:zs.length<=6:=()
  refine ⟨λσ H5=>∃c,σ=[some (.ref b),some (.ref p),some (.ref sd),none,none]/\ScB L b H H5 sd c/\c.sk=[]/\∀x∈c.lds,x.2=[],?_,?_⟩
  ·walk_at "r"
   refine ⟨sd,.ref gl,rfl,by rw [<- QR p q sg gl];exact qU.k (k:=.inr "grounds") dF,?_⟩
   walk_at "r"
   refine ⟨⟨_,SqL.of gF⟩,λle hle=>?_⟩
   have leb:le≠b:=BF.ne hle
   refine qp (K:=K) (a:=gl) (xs:=zs) (acc:=le) (λi σ He=>∃(x:Option V) (lds:List (Addr×List (Int×Int))),σ=[x]/\He le=some (.lst (lds.map λx=>V.ref x.1))/\lds.length=i/\(∀x∈lds,He x.1=some (.dK [])/\x.2=[]/\Hf x.1=none/\x.1≠le)/\(lds.map (·.1)).Nodup/\Ext le Hf He) ?_ ?_ ?_ ?_
   ·exact ⟨none,[],rfl,j5,rfl,(λx z=>by cases z),eS,Ext.put⟩
   ·rintro i σ He hi ⟨x,lds,rfl,he,hl,hd,nn,e⟩
    exact SqL.of (e _ _ gF (j1 gF hle))
   ·rintro i v σ He hv ⟨x,lds,rfl,he,hl,hd,nn,e⟩
    have hi:=(List.getElem?_eq_some_iff.mp hv).1
    walk_at "r"
    intro d hd0
    have dl:d≠le:=(j1 he hd0).symm
    refine ⟨_,(by rw [j6 (cj dl)];exact he),by rw [af];exact jg (),some v,lds++[(d,[])],rfl,(by rw [j5,aB];rfl),(by rw [ak,hl];rfl),λy hy=>?_,?_,λc o hc n=>?_⟩
    ·rcases List.mem_append.mp hy with z | z
     ·obtain ⟨h1,h2,h3,h4⟩:=hd y z
      exact ⟨by rw [j6 h4,j6 (j1 h1 hd0)];exact h1,h2,h3,h4⟩
     ·obtain rfl:y=(d,[]):=by simpa using z
      exact ⟨by rw [j6 dl];exact j5,rfl,e.free hd0 dl,dl⟩
    ·rw [aB]
     refine wD nn λz=>?_
     obtain ⟨y,hy,ey⟩:=List.mem_map.mp z
     have:=(hd y hy).1
     rw [ey,hd0] at this
     cases this
    ·rw [j6 n,j6 (j1 (e c o hc n) hd0)]
     exact e c o hc n
   ·rintro σ He ⟨x,lds,rfl,he,hl,hd,nn,e⟩
    have sE:jn Hf He:=λc o h=>e c o h (j1 h hle)
    walk_at "r"
    refine ⟨sd,_,rfl,vF.k (k:=.inr "leaps") (sE _ _ dF) (by show 4<sizeLine;decide),?_⟩
    rw [put5]
    have nG:∀{a:Addr} {o:HO},He a=some o->(∀kvs,o≠.dK kvs)->(upd He sd (.dK (scK p q sg gl le))) a=some o:=λh n=>by rw [j6 (ji h (sE _ _ dF) (n _))];exact h
    have lG:∀x∈lds,(upd He sd (.dK (scK p q sg gl le))) x.1=some (.dK (x.2.map kvI)):=λx hx=>by
     obtain ⟨h1,h2,h3,h4⟩:=hd x hx
     rw [j6 (j1 dF h3).symm,h2]
     exact h1
    have sgG:(upd He sd (.dK (scK p q sg gl le))) sg=some (.dK []):=by rw [j6 sgsd];exact sE _ _ sgF
    refine ⟨⟨p,q,sg,gl,le,xs,ys,zs,rs,ts,ws,[],lds⟩,rfl,⟨⟨j5,nG (sE _ _ pF) (by walk_at "w"),rF.keep λ_ _ h=>nG (sE _ _ h) (by walk_at "w"),nG (sE _ _ qF) (by walk_at "w"),r3F.imp λ_ _ h=>nG (sE _ _ h) (by walk_at "w"),nG (sE _ _ gF) (by walk_at "w"),Paired.mapP giF λv wy ⟨a,e,ha⟩=>⟨a,e,nG (sE _ _ ha) (by walk_at "w")⟩,nG he (by walk_at "w"),.inl sgG,(λz hz=>by cases hz),λx hx=>.inl (lG x hx)⟩,
     ⟨g1,l1,l8,ht12.1,ht12.2,htg,hR,hl.trans (hz.trans hlw),nn,λx hx=>(j1 sgF (hd x hx).2.2.1).symm,pb,qb,glb,leb,zb,eS,(λz hz=>by cases hz),aC _,(λx hx=>by rw [(hd x hx).2.1];exact eS),(λx hx=>by rw [(hd x hx).2.1];intro z hz;cases hz),(λx hx=>by rw [(hd x hx).2.1];exact aC _)⟩,sgG,lG,(BF.same sE).put sdb (B1.neL hsd),λc o h n=>?_,sg0,λx hx=>?_⟩,rfl,λx hx=>(hd x hx).2.1⟩
    ·rw [j6 (j1 h sd0)]
     exact sE _ _ (XF c o h n)
    ·exact XF.free (hd x hx).2.2.1 (BF.ne (hd x hx).2.2.1)
  rintro σ H5 ⟨c,rfl,S5,k5,l5⟩
  clear dF pF qF rF r3F gF giF sgF BF XF zb hlw hws hz hzw
  refine ⟨λσ H6=>∃(x:Option V) (c:ScN),σ=[some (.ref b),some (.ref p),some (.ref sd),x,none]/\ScB L b H H6 sd c/\∀x∈c.lds,x.2=[],?_,?_⟩
  ·walk_at "r"
   refine ⟨by show 3<=sizeLine;decide,λl6 H6 hl6 hl66 s6=>?_⟩
   have S6:=S5.same s6
   have l6b:l6≠b:=S5.B.ne hl6
   walk_at "r"
   refine ⟨L,b,_,rfl,S6.B,⟨⋯,⋯⟩,λv7 H7 p7 q7 B7 X7=>?_⟩
   have S7:=S6.take B7 X7
   obtain ⟨n,hn,n0,n1⟩:=US p7 q7
   refine ⟨_,_,_,_,rfl,rfl,SqL.of (X7 _ _ hl66 l6b),hn,?_⟩
   walk_at "r"
   refine ⟨L,b,_,rfl,S7.B,⟨n0,()⟩,λv8 H8 p8 q8 B8 X8=>?_⟩
   have S8:=S7.take B8 X8
   walk_at "r"
   refine ⟨(),(),?_⟩
   refine qR (λi σ H2=>∃(x:Option V) (c:ScN),σ=[some (.ref b),some (.ref p),some (.ref sd),x,none]/\ScB L b H H2 sd c/\c.sk.length<=i/\∀x∈c.lds,x.2=[]) ?_ ?_ ?_
   ·exact ⟨none,c,rfl,S8,by rw [k5];exact aq _,l5⟩
   ·rintro i σ H2 hi ⟨x,c,rfl,S,hk,hl⟩
    walk_at "r"
    refine ⟨L,b,rfl,S.B,λt H9 r B9 X9 ht hg=>?_⟩
    have S9:=S.take B9 X9
    walk_at "r"
    refine ⟨sd,.ref c.sg,rfl,by rw [<- yg c.p c.q c.sg c.gl c.ll];exact qU.k (k:=.inr "single") S9.S.sd,?_⟩
    walk_at "r"
    refine ⟨L,b,rfl,S9.B,λy H10 y0 y1 B10 X10=>?_⟩
    have S10:=S9.take B10 X10
    refine ⟨c.sg,_,rfl,vF.k (k:=.inl y) S10.r1 (by rw [af];exact jg (by have:=S10.O.k3;omega)),?_⟩
    exact ⟨_,{ c with sk:=xK c.sk y t },rfl,S10.single y0 y1 (X10 _ _ ht (S9.B.ne_tup ht)) hg (),aF (um _ _ _) (),hl⟩
   ·rintro σ H2 ⟨x,c,rfl,S,hk,hl⟩
    exact ⟨x,c,rfl,S,hl⟩
  clear S5 k5 l5
  rintro σ H6 ⟨x,c,rfl,S6,l6⟩
  walk_at "r"
  refine ⟨by show 3<=sizeLine;decide,λl7 H7 hl7 hl77 s7=>?_⟩
  have S7:=S6.same s7
  have l7b:l7≠b:=S6.B.ne hl7
  walk_at "r"
  refine ⟨L,b,_,rfl,S7.B,⟨⋯,⋯⟩,λv8 H8 p8 q8 B8 X8=>?_⟩
  have S8:=S7.take B8 X8
  obtain ⟨n,hn,n0,n1⟩:=Uu p8 q8
  refine ⟨_,_,_,_,rfl,rfl,SqL.of (X8 _ _ hl77 l7b),hn,?_⟩
  walk_at "r"
  refine ⟨L,b,_,rfl,S8.B,⟨n0,()⟩,λv9 H9 p9 q9 B9 X9=>?_⟩
  have S9:=S8.take B9 X9
  walk_at "r"
  refine ⟨(),(),?_⟩
  refine qR (λi σ H2=>∃(x y:Option V) (c:ScN),σ=[some (.ref b),some (.ref p),some (.ref sd),x,y]/\ScB L b H H2 sd c/\∀x∈c.lds,x.2.length<=i) ?_ ?_ ?_
  ·exact ⟨x,none,c,rfl,S9,λx hx=>by rw [l6 x hx];exact aq _⟩
  ·rintro i σ H2 hi ⟨x,y',c,rfl,S,hl⟩
   have hw1:1<=c.ws.length:=by
    rw [S.O.ro.length]
    exact J6 (qk S.O.gr.ok) S.O.l1
   have hzl:c.zs.length=c.ws.length:=(aK S.S.gi).trans (af _)
   have hw6:c.ws.length<=6:=by rw [S.O.ro.length];exact S.O.gr.heads
   walk_at "r"
   refine ⟨sd,.ref c.gl,rfl,by rw [<- xH c.p c.q c.sg c.gl c.ll];exact qU.k (k:=.inr "grounds") S.S.sd,?_⟩
   walk_at "r"
   refine ⟨c.gl,_,rfl,.inl (SqL.of S.S.gl),?_⟩
   walk_at "r"
   refine ⟨L,b,_,rfl,S.B,⟨(),()⟩,λln H10 ln0 ln1 B10 X10=>?_⟩
   have S10:=S.take B10 X10
   walk_at "r"
   refine ⟨by show 2<=sizeLine;decide,λl11 H11 hl11 hl11' s11=>?_⟩
   have S11:=S10.same s11
   have l11b:l11≠b:=S10.B.ne hl11
   walk_at "r"
   refine ⟨L,b,_,rfl,S11.B,⟨⋯,⋯⟩,λv12 H12 p12 q12 B12 X12=>?_⟩
   have S12:=S11.take B12 X12
   obtain ⟨n,hn,n0,n1⟩:=GU p12 q12
   refine ⟨_,_,_,_,rfl,rfl,SqL.of (X12 _ _ hl11' l11b),hn,?_⟩
   walk_at "r"
   refine ⟨L,b,_,rfl,S12.B,⟨n0,()⟩,λv13 H13 p13 q13 B13 X13=>?_⟩
   have S13:=S12.take B13 X13
   walk_at "r"
   have hll:ln.toNat<c.lds.length:=by rw [S.O.ldl];omega
   obtain ⟨⟨a,ns⟩,ha⟩:∃z,c.lds[ln.toNat]? = some z:=⟨_,aa hll⟩
   refine ⟨sd,.ref c.ll,rfl,by rw [<- wY c.p c.q c.sg c.gl c.ll];exact qU.k (k:=.inr "leaps") S13.S.sd,?_⟩
   walk_at "r"
   refine ⟨_,_,_,_,rfl,rfl,SqL.of S13.S.ll,qS ln0 (v:=V.ref a) (by rw [av,ha];rfl),?_⟩
   walk_at "r"
   refine ⟨L,b,rfl,S13.B,λy H14 y0 y1 B14 X14=>?_⟩
   have S14:=S13.take B14 X14
   have hns:=hl _ (ax ha)
   refine ⟨a,_,rfl,vF.k (k:=.inl y) (S14.r2 _ (ax ha)) (by rw [af];exact jg (by have:ns.length<=i:=hns;omega)),?_⟩
   have hns:ns.length<=i:=hns
   refine ⟨_,_,{ c with lds:=c.lds.set ln.toNat (a,xK ns y (1+v13)) },rfl,S14.leap ha y0 y1 () () (),λx hx=>?_⟩
   rcases ug S.O.nd ha hx with z | ⟨z,_⟩
   ·subst z
    exact aF (um _ _ _) ()
   ·exact eO (hl x z)
  ·rintro σ H2 ⟨x,y',c,rfl,S,hl⟩
   walk_at "r"
   exact k sd H2 c S.B S.X S.S S.O
theorem IceNew.made {C Pt p dx:Addr}{H H':Hp}{g:IceG}{o o':HO}(hp:H p=none) (hd:H dx=none) (I:IceNew C Pt (upd (upd H dx o) p o') H' p g):IceNew C Pt H H' p g:=by
 have s:jn H (upd (upd H dx o) p o'):=λc u h=>by rw [j6 (j1 h hp),j6 (j1 h hd)];exact h
 exact ⟨I.at_,λc u h n m=>I.keep c u (s c u h) n m,s.free I.va,s.free I.cy,s.free I.sl,s.free I.ye,s.free I.le,λa z=>s.free (I.zs a z),I.kvs,λx hx=>⟨s.free (I.lds x hx).1,(I.lds x hx).2⟩,I.ll,I.nd,I.ny,I.sl2⟩
structure IceFr (H:Hp) (p:Addr) (g:IceG):Prop where
 p:H p=none
 va:H g.va=none
 cy:H g.cy=none
 sl:H g.sl=none
 ye:H g.ye=none
 le:H g.le=none
 zs:∀a,V.ref a∈g.zs->H a=none
 lds:∀x∈g.lds,H x.1=none
theorem IceAt.stay {C p:Addr}{H H2 H3:Hp}{g:IceG}(I:IceAt C H2 p g) (F:IceFr H p g) (f:∀a o,H2 a=some o->H a=none->H3 a=some o) (t:jj H2 H3):IceAt C H3 p g :=
 ⟨f _ _ I.ob F.p,f _ _ I.va F.va,I.rs.keep t,f _ _ I.cy F.cy,I.rows.imp λ_ _ q=>t _ _ q,f _ _ I.sl F.sl,pmM I.slopes λv hv w ⟨a,ea,q⟩=>⟨a,ea,f _ _ q (F.zs a (ea ▸ hv))⟩,f _ _ I.ye F.ye,f _ _ I.le F.le,λx hx=>f _ _ (I.lds x hx) (F.lds x hx)⟩
theorem Fr3.ext {N M:Addr->Prop}{H H2 H3:Hp}{a:Addr}(f:Fr3 N M H H2) (e:Ext a H2 H3) (ha:H a=none):Fr3 N M H H3:=λc o h n=>by
 have ca:c≠a:=j1 h ha
 rcases f c o h n with q | ⟨m,ob,kvs,eo,q⟩
 ·exact .inl (e _ _ q ca)
 ·exact .inr ⟨m,ob,kvs,eo,e _ _ q ca⟩
theorem Fr3.same {N M:Addr->Prop}{H H2 H3:Hp}(f:Fr3 N M H H2) (e:jn H2 H3):Fr3 N M H H3:=λc o h n=>by
 rcases f c o h n with q | ⟨m,ob,kvs,eo,q⟩
 ·exact .inl (e _ _ q)
 ·exact .inr ⟨m,ob,kvs,eo,e _ _ q⟩
theorem Fr3.frz {N M:Addr->Prop}{H H2:Hp}{a:Addr}{ob:Obj}{kvs:List (Key×V)}(f:Fr3 N M H H2) (h:H2 a=some (.dK kvs)) (m:M a):Fr3 N M H (upd H2 a (.frz ob (.dK kvs))):=λc o hc n=>by
 by_cases e:c=a
 ·subst e
  rcases f c o hc n with q | ⟨_,ob',kvs',eo,q⟩
  ·rw [h] at q
   cases q
   exact .inr ⟨m,ob,kvs,rfl,j5⟩
  ·rw [h] at q
   cases q
 ·rw [j6 e]
  exact f c o hc n
theorem YG {H:Hp}{a:Addr}{ob:Obj}{kvs:List (Key×V)}(h:H a=some (.dK kvs)):jj H (upd H a (.frz ob (.dK kvs))):=λc xs q=>by rw [j6 (ji q h (by walk_at "z"))];exact q
theorem UP {H:Hp}{a Pt:Addr}{ob:Obj}{kvs:List (Key×V)}(T:qK H Pt) (h:H a=some (.dK kvs)):qK (upd H a (.frz ob (.dK kvs))) Pt:=by
 rcases T with q | ⟨c,q,q'⟩
 ·exact .inl (by rw [j6 (ji q h (by walk_at "z"))];exact q)
 ·exact .inr ⟨c,by rw [j6 (ji q h (by walk_at "z"))];exact q,by rw [j6 (ji q' h (by walk_at "z"))];exact q'⟩
theorem Qi {H H':Hp}{a Pt:Addr}{kvs:List (Key×V)}(T:qK H Pt) (h:H a=some (.dK kvs)) (e:Ext a H H'):qK H' Pt:=by
 rcases T with q | ⟨c,q,q'⟩
 ·exact .inl (e _ _ q (ji q h (by walk_at "z")))
 ·exact .inr ⟨c,e _ _ q (ji q h (by walk_at "z")),e _ _ q' (ji q' h (by walk_at "z"))⟩
theorem G4 {ns:List (Int×Addr)}{i:Nat}{q:Key×V}(h:(ns.map kvA)[i]? = some q):∃z,ns[i]? = some z/\q=kvA z:=by
 rw [av] at h
 cases e:ns[i]? with
 | none=>rw [e] at h;cases h
 | some z=>rw [e] at h;cases h;exact ⟨z,rfl,rfl⟩
theorem vj:∀{ns:List (Int×Addr)},(ns.map (·.1)).Nodup->∀{z:Int×Addr},z∈ns->jV (ns.map kvA) (.inl z.1)=some (.ref z.2)
 | [],_,z,h=>by cases h
 | q::r,nd,z,h=>by
  rw [aN] at nd
  obtain ⟨h1,h2⟩:=List.nodup_cons.mp nd
  rw [aN]
  rcases List.mem_cons.mp h with e | e
  ·subst e
   exact xh
  ·have ne:¬q.1=z.1:=λw=>h1 (by rw [w];exact bH e)
   show jV ((.inl q.1,.ref q.2)::r.map kvA) (.inl z.1)=_
   rw [ju (λw=>ne (dR w))]
   exact vj h2 e
theorem U2 {α:Type}{l:List (Int×α)}{y:Int}{a:α}(h:y∉l.map (·.1)):xK l y a=l++[(y,a)]:=by
 unfold xK
 rw [if_neg]
 intro z
 obtain ⟨u,hu,e⟩:=List.any_eq_true.mp z
 exact h (of_decide_eq_true e ▸ bH hu)
theorem Z8 {α:Type}{l:List (Int×α)}(nd:(l.map (·.1)).Nodup) {i:Nat}{z:Int×α}(h:l[i]? = some z):z.1∉(l.take i).map (·.1):=λm=>by
 obtain ⟨hi,e⟩:=List.getElem?_eq_some_iff.mp h
 obtain ⟨u,hu,eu⟩:=List.mem_map.mp m
 obtain ⟨j,hj,ej⟩:=List.mem_iff_getElem.mp hu
 rw [aJ] at hj
 rw [lp] at ej
 have h1:(l.map (·.1))[j]'(by rw [af];omega)=(l.map (·.1))[i]'(by rw [af];exact hi):=by rw [cK,cK,ej,e,eu]
 exact absurd h1 (List.pairwise_iff_getElem.mp nd j i _ _ ())
theorem Q7 {α:Type}{f:α->V}{l:List (Int×α)}(nd:(l.map (·.1)).Nodup) {i:Nat}{z:Int×α}(h:l[i]? = some z):qB ((l.take i).map λz=>((.inl z.1,f z.2):Key×V)) (.inl z.1) (f z.2)=(l.take (i+1)).map λz=>((.inl z.1,f z.2):Key×V):=by
 rw [kE f,U2 (Z8 nd h),bF,h]
 rfl
structure LdN (g0:List (Addr×List (Key×V))) (cl:List (Addr×List (Int×Int))) (i n:Nat) (lds:List (Addr×List (Key×V))):Prop where
 fst:lds.map (·.1)=g0.map (·.1)
 at_:∀j x,lds[j]? = some x->∃y,cl[j]? = some y/\x.2=(if j<i then y.2 else if j=i then y.2.take n else []).map kvI
theorem LdN.len {g0 lds:List (Addr×List (Key×V))}{cl:List (Addr×List (Int×Int))}{i n:Nat}(h:LdN g0 cl i n lds):lds.length=g0.length:=by
 have:=congrArg lh h.fst
 rwa [af,af] at this
theorem LdN.next {g0 lds:List (Addr×List (Key×V))}{cl:List (Addr×List (Int×Int))}{i n:Nat}{y:Addr×List (Int×Int)}(h:LdN g0 cl i n lds) (hy:cl[i]? = some y) (hn:y.2.length<=n):LdN g0 cl (i+1) 0 lds:=⟨h.fst,λj x hx=>by
 obtain ⟨u,hu,e⟩:=h.at_ j x hx
 refine ⟨u,hu,?_⟩
 rw [e]
 by_cases a:j<i
 ·rw [if_pos a,if_pos ()]
 ·rw [if_neg a]
  by_cases b:j=i
  ·subst b
   rw [hy] at hu
   cases hu
   rw [if_pos rfl,if_pos (),bJ hn]
  ·rw [if_neg b,if_neg ()]
   split
   ·rfl
   ·rfl⟩
theorem LdN.put {g0 lds:List (Addr×List (Key×V))}{cl:List (Addr×List (Int×Int))}{i n:Nat}{y:Addr×List (Int×Int)}{z:Int×Int}{a:Addr}{kvs:List (Key×V)}(h:LdN g0 cl i n lds) (hy:cl[i]? = some y) (nd:(y.2.map (·.1)).Nodup) (hz:y.2[n]? = some z) (ha:lds[i]? = some (a,kvs)):LdN g0 cl i (n+1) (yZ lds i (qB kvs (.inl z.1) (.int z.2))):=by
 obtain ⟨u,hu,e⟩:=h.at_ i _ ha
 rw [hy] at hu
 cases hu
 rw [if_neg (cq i),if_pos rfl] at e
 have e2:qB kvs (.inl z.1) (.int z.2)=(y.2.take (n+1)).map kvI:=by
  rw [show kvs=(y.2.take n).map kvI from e]
  exact Q7 (f:=V.int) nd hz
 refine ⟨?_,λj x hx=>?_⟩
 ·rw [<- h.fst]
  unfold yZ
  rw [ao,ha]
  exact ZI ha
 ·unfold yZ at hx
  rw [fV] at hx
  by_cases b:i=j
  ·subst b
   rw [if_pos rfl,if_pos (List.getElem?_eq_some_iff.mp ha).1] at hx
   cases hx
   exact ⟨y,hy,by rw [if_neg (cq i),if_pos rfl];exact e2⟩
  ·rw [if_neg b] at hx
   obtain ⟨u,hu,e⟩:=h.at_ j x hx
   refine ⟨u,hu,?_⟩
   rw [e]
   by_cases c:j<i
   ·rw [if_pos c,if_pos c]
   ·rw [if_neg c,if_neg c,if_neg (λq=>b q.symm),if_neg (λq=>b q.symm)]
theorem ScAt.fr {Pt sd:Addr}{H H':Hp}{c:ScN}(S:ScAt H sd c) (T:qK H Pt) (f:Fr3 (λa=>a=Pt) c.D H H'):ScAt H' sd c:=by
 obtain ⟨ps,hP⟩:=T.ne
 have n:∀{a:Addr} {o:HO},H a=some o->(∀ps,o≠.tbl ps)->¬a=Pt:=λh q=>ji h hP (q _)
 have nr:∀{a:Addr} {kvs:List (Key×V)},Rd H a (.dK kvs)->¬a=Pt:=λh=>by
  rcases h with h | ⟨o,h⟩
  ·exact n h (by walk_at "w")
  ·exact n h (by walk_at "w")
 exact S.keep f (λa xs h=>n h (by walk_at "w")) (n S.sd (by walk_at "w")) S.nD (n S.p (by walk_at "w")) (n S.q (by walk_at "w")) (n S.gl (by walk_at "w")) (n S.ll (by walk_at "w")) (λa h=>by
  obtain ⟨w,a',e,q⟩:=pm S.gi _ h
  cases e
  exact n q (by walk_at "w")) (nr S.sg) λx hx=>nr (S.ld x hx)
theorem ScAt.inD {H:Hp}{sd a:Addr}{c:ScN}(S:ScAt H sd c) (h:c.D a):∃o,H a=some o:=by
 have r:∃kvs,Rd H a (.dK kvs):=by
  rcases h with h | ⟨x,hx,e⟩
  ·exact ⟨_,h ▸ S.sg⟩
  ·exact ⟨_,e ▸ S.ld x hx⟩
 obtain ⟨_,r | ⟨o,r⟩⟩:=r
 ·exact ⟨_,r⟩
 ·exact ⟨_,r⟩
theorem VI {a:Addr}{kvs:List (Key×V)}{o:Obj}{H H4:Hp}(f:Fz a kvs o H H4):jj H H4:=λc xs q=>by
 rcases f.2 with rfl | ⟨h,rfl⟩
 ·exact q
 ·exact YG h c xs q
theorem GT {N M:Addr->Prop}{a:Addr}{kvs:List (Key×V)}{o:Obj}{H H2 H4:Hp}(f:Fz a kvs o H2 H4) (r:Fr3 N M H H2) (m:M a):Fr3 N M H H4:=by
 rcases f.2 with rfl | ⟨h,rfl⟩
 ·exact r
 ·exact r.frz h m
theorem G7 {a Pt:Addr}{kvs:List (Key×V)}{o:Obj}{H H4:Hp}(f:Fz a kvs o H H4) (T:qK H Pt):qK H4 Pt:=by
 rcases f.2 with rfl | ⟨h,rfl⟩
 ·exact T
 ·exact UP T h
structure MdI (C Pt p:Addr) (c:ScN) (H H2:Hp) (g:IceG):Prop where
 I:IceAt C H2 p g
 F:IceFr H p g
 R:Fr3 (λa=>a=Pt) c.D H H2
 T:qK H2 Pt
theorem MdI.frz {C Pt p sd a:Addr}{c:ScN}{H H2 H4:Hp}{g:IceG}{kvs:List (Key×V)}{o:Obj}(M:MdI C Pt p c H H2 g) (S:ScAt H sd c) (h:c.D a) (f:Fz a kvs o H2 H4):MdI C Pt p c H H4 g:=by
 obtain ⟨_,ha⟩:=S.inD h
 exact ⟨M.I.stay M.F (λb u hb n=>f.at hb (j1 ha n).symm) (VI f),M.F,GT f M.R h,G7 f M.T⟩
theorem MdI.same {C Pt p:Addr}{c:ScN}{H H2 H4:Hp}{g:IceG}(M:MdI C Pt p c H H2 g) (s:jn H2 H4):MdI C Pt p c H H4 g:=⟨M.I.same s,M.F,M.R.same s,M.T.same s⟩
theorem LdN.mem {g0 lds:List (Addr×List (Key×V))}{cl:List (Addr×List (Int×Int))}{i n:Nat}(h:LdN g0 cl i n lds) {x:Addr×List (Key×V)}(hx:x∈lds):∃y∈g0,y.1=x.1:=by
 have:x.1∈g0.map (·.1):=h.fst ▸ bH hx
 obtain ⟨y,hy,e⟩:=List.mem_map.mp this
 exact ⟨y,hy,e⟩
noncomputable def Vh (C Pt:Addr):Sp:=λvs H Q _=>∃(sd b:Addr) (c:ScN),vs=[.ref sd]/\ScAt H sd c/\ScOk b c/\qK H Pt /\
 ∀p H' g,IceAt C H' p g->IceFr H p g->Fr3 (λa=>a=Pt) c.D H H'->qK H' Pt->g.rs=c.rs->g.rows=c.ts->g.slopes=c.ws.map (ja c.rs)->g.kvs=c.sk.map kvA->g.lds.length=c.lds.length->(∀(l:Nat) x,g.lds[l]? = some x->∃y,c.lds[l]? = some y/\x.2=y.2.map kvI)->(∀x∈g.lds,x.1≠g.ye)->(g.lds.map (·.1)).Nodup->Q (.ref p) H'
theorem xr:FnScope ["_law_scene_here","_law_ice","_law_year_here","_law_lane","_law_leaps"] ["_law_scene_here"] (j8 vS):=by walk_at "s"
theorem Ur {f C CV CR CN CY CW CS Pt:Addr}{fd:FuncData}(nb:Nb2 mg) (cl_Ice:Cls K C) (c_Ice:MakX P w K mg base 8 C "Ice" ["self","reaches","rows"] (VR C CV CR Pt)) (c_Ice__tell:CalMX P w K mg base 2 C "tell" ["self","year","row"] (VP C CY CW)) (c_Ice__surge:CalMX P w K mg base 2 C "surge" ["self","lane","year","many"] (Zv C CN CY CS)) (F:Fun K "_law_made" "_law_made" vS f fd):FnOk P w K mg base CX0 10 f fd ["_law_scene_here"] (Vh C Pt):=by
 refine F.ok xr (λvs H Q E h=>?_) (λcdv A outer s H vs Q E hr h=>?_)
 ·obtain ⟨sd,b,c,rfl,_⟩:=h
  rfl
 ·obtain ⟨sd,b,c,rfl,S,O,T,k⟩:=h
  refine ⟨_,(j4 (jt 1 xr.nd (Uf c_Ice (hr.mono ⋯) JC rfl (j0 (qI (qJ K) rfl nb.b_list bT (j0 (jJ (jR hr) (pv 0) jF (λ_ _=>rfl)) j2)) (j0 (qI (qJ K) rfl nb.b_list bT (j0 (jJ (jR hr) (pv 0) jF (λ_ _=>rfl)) j2)) j2))))
   (j4 (qt aV rfl (wC (jJ (jR hr) (pv 0) jF (λ_ _=>rfl))) (jb (i:=2) xr.nd rfl (aP rfl)) (j9 (jM (y4 (pv 1) cl_Ice c_Ice__tell (hr.mono ⋯) JC (j0 (pv 2) (j0 (jJ (jR hr) (jJ (jR hr) (pv 0) jF (λ_ _=>rfl)) (pv 2) (λ_ _=>rfl)) j2))))))
   (j4 (qt aV rfl (JM K rfl nb.b_enumerate (j0 (jJ (jR hr) (pv 0) jF (λ_ _=>rfl)) j2)) (qv (n:=2) K rfl (jm (jb (i:=3) xr.nd rfl (aP rfl)) (jm (jb (i:=4) xr.nd rfl (aP rfl)) qw))) (j9 (qt aV rfl (wC (pv 4)) (jb (i:=2) xr.nd rfl (aP rfl)) (j9 (jM (y4 (pv 1) cl_Ice c_Ice__surge (hr.mono ⋯) JC (j0 (pv 3) (j0 (pv 2) (j0 (jJ (jR hr) (pv 4) (pv 2) (λ_ _=>rfl)) j2)))))))))
   (j9 (jk (pv 1)))))),?_⟩
  walk_at "r"
  refine ⟨sd,.ref c.p,rfl,by rw [<- Zj c.p c.q c.sg c.gl c.ll];exact qU.k (k:=.inr "reaches") S.sd,?_⟩
  refine ⟨_,_,rfl,.inl (SqL.of S.p),λl1 H1 hl1 hl11 s1=>?_⟩
  have S1:=S.same s1
  walk_at "r"
  refine ⟨sd,.ref c.q,rfl,by rw [<- Jw c.p c.q c.sg c.gl c.ll];exact qU.k (k:=.inr "rows") S1.sd,?_⟩
  refine ⟨_,_,rfl,.inl (SqL.of S1.q),λl2 H2 hl2 hl22 s2=>?_⟩
  have S2:=S1.same s2
  have s12:=s1.trans s2
  walk_at "r"
  intro p dx hp hd hdp
  have s3:jn H2 (upd (upd H2 dx (.own p)) p (.ins C dx [])):=λc u h=>by rw [j6 (j1 h hp),j6 (j1 h hd)];exact h
  have S3:=S2.same s3
  have egr:gr c.ts=true:=by
   have:=O.t1
   have:=O.t2
   unfold gr
   rw [decide_eq_true (),O.tg]
   rfl
  have eg:=O.gr.good O.l1 O.l8
  refine ⟨p,dx,l1,l2,c.xs,c.ys,c.rs,c.ts,rfl,j5,s3 _ _ (s2 _ _ hl11),S3.rv,s3 _ _ hl22,S3.r3,λr hr=>aF (Zs O.gr r hr) ⋯,aF O.l8 ⋯,aF O.t2 ⋯,(T.same s12).same s3,λH4 g _ _ I e1 e2 e3 e4 T4=>?_,(λH' z _ _=>by rw [eg] at z;cases z),(λH' _ z _ _=>by rw [egr] at z;cases z)⟩
  have I:=I.made hp hd
  obtain ⟨ws,hR,esl⟩:=I.sl2
  rw [e1] at hR esl
  obtain rfl:=hR.unique O.ro
  have F4:IceFr H p g:=⟨s12.free hp,s12.free I.va,s12.free I.cy,s12.free I.sl,s12.free I.ye,s12.free I.le,λa z=>s12.free (I.zs a z),λx hx=>s12.free (I.lds x hx).1⟩
  have M4:MdI C Pt p c H H4 g:=⟨I.at_,F4,λa o h n=>.inl (I.keep a o (s12 _ _ h) (j1 h F4.p) n),T4⟩
  have ll4:g.lds.length=c.lds.length:=by rw [I.ll,esl,af,O.ldl]
  have nd4:=I.nd
  have ny4:=I.ny
  have kv4:=I.kvs
  have ld4:∀x∈g.lds,x.2=[]:=λx hx=>(I.lds x hx).2
  clear I S3 s3 S2 hl22 hl11 S1 T4
  refine ⟨rfl,?_⟩
  have S4:=S.fr T M4.R
  walk_at "r"
  refine ⟨sd,.ref c.sg,rfl,by rw [<- yg c.p c.q c.sg c.gl c.ll];exact qU.k (k:=.inr "single") S4.sd,?_⟩
  have hsgD:c.D c.sg:=.inl rfl
  refine uQ (kvs:=c.sk.map kvA) S4.sg (λo i σ H5=>∃x:Option V,σ=[some (.ref sd),some (.ref p),x,none,none]/\H5 c.sg=some (.frz o (.dK (c.sk.map kvA)))/\MdI C Pt p c H H5 { g with kvs:=(c.sk.take i).map kvA }) ?_ ?_ ?_ ?_
  ·intro o H5 f5
   refine ⟨none,rfl,f5.1,?_⟩
   have:=M4.frz S hsgD f5
   have e:g={ g with kvs:=(c.sk.take 0).map kvA }:=by
    show g={ g with kvs:=[] }
    rw [<- kv4]
   rw [<- e]
   exact this
  ·rintro o i σ H5 hi ⟨x,rfl,h5,M5⟩
   exact h5
  ·rintro o i u σ H5 hq ⟨x,rfl,h5,M5⟩
   obtain ⟨z,hz,rfl⟩:=G4 hq
   have hm:=ax hz
   have hi:i<c.sk.length:=(List.getElem?_eq_some_iff.mp hz).1
   have h10:=O.k3
   have S5:=S.fr T M5.R
   obtain ⟨r,hr3,hgr⟩:=S5.sk z hm
   obtain ⟨y0,y1⟩:=O.k2 z hm
   show uh 2 (V.int z.1) _ _ _
   walk_at "r"
   refine ⟨p,g.dx,_,rfl,M5.I.ob,qT ∅,?_⟩
   walk_at "r"
   refine ⟨sd,.ref c.sg,rfl,by rw [<- yg c.p c.q c.sg c.gl c.ll];exact qU.k (k:=.inr "single") S5.sd,?_⟩
   walk_at "r"
   refine ⟨c.sg,.ref z.2,rfl,(by rw [<- vj O.k1 hm];exact .inl ⟨_,.inl z.1,.inr ⟨o,h5⟩,rfl,rfl⟩),?_⟩
   refine ⟨p,z.2,_,z.1,r,rfl,M5.I,ny4,hr3,(by rw [af,aJ];omega),λH6 _ _ _ X6 I6=>?_,λhb=>absurd hb (),λ_ _ hb=>by rw [hgr] at hb;cases hb⟩
   have e:qB ((c.sk.take i).map kvA) (.inl z.1) (.ref z.2)=(c.sk.take (i+1)).map kvA:=Q7 (f:=V.ref) O.k1 hz
   obtain ⟨_,hsg0⟩:=S.inD hsgD
   refine ⟨_,rfl,X6 _ _ h5 (j1 hsg0 F4.ye),?_⟩
   rw [<- e]
   exact ⟨I6,⟨F4.p,F4.va,F4.cy,F4.sl,F4.ye,F4.le,F4.zs,F4.lds⟩,M5.R.ext X6 F4.ye,Qi M5.T M5.I.ye X6⟩
  ·rintro o σ H5 ⟨x,rfl,h5,M5⟩
   rw [af,aW] at M5
   have S5:=S.fr T M5.R
   walk_at "r"
   refine ⟨sd,.ref c.ll,rfl,by rw [<- wY c.p c.q c.sg c.gl c.ll];exact qU.k (k:=.inr "leaps") S5.sd,?_⟩
   walk_at "r"
   refine ⟨⟨_,SqL.of S5.ll⟩,?_⟩
   refine Qa (K:=K) (a:=c.ll) (xs:=c.lds.map λx=>V.ref x.1) (λi σ H6=>∃(x y z:Option V) (lds:List (Addr×List (Key×V))),σ=[some (.ref sd),some (.ref p),x,y,z]/\MdI C Pt p c H H6 { g with kvs:=c.sk.map kvA,lds:=lds }/\LdN g.lds c.lds i 0 lds) ?_ ?_ ?_ ?_
   ·refine ⟨x,none,none,g.lds,rfl,M5,rfl,λj x hx=>?_⟩
    have hj:=(List.getElem?_eq_some_iff.mp hx).1
    obtain ⟨y,hy⟩:∃y,c.lds[j]? = some y:=⟨_,aa ()⟩
    refine ⟨y,hy,?_⟩
    rw [ld4 x (ax hx),if_neg (pO _)]
    split <;> rfl
   ·rintro i σ H6 hi ⟨x,y,z,lds,rfl,M6,L6⟩
    exact SqL.of (S.fr T M6.R).ll
   ·rintro i v σ H6 t hv ⟨x,y,z,lds,rfl,M6,L6⟩ ht
    rw [av] at hv
    obtain ⟨⟨a,ns⟩,hy,ev⟩:=Option.map_eq_some_iff.mp hv
    subst ev
    have M7:=M6.same (jn.new (o:=.tup [.int i,.ref a]) ht)
    walk_at "r"
    refine ⟨t,_,rfl,SqT.of j5,rfl,?_⟩
    refine ⟨_,_,rfl,_,_,rfl,rfl,?_⟩
    walk_at "r"
    clear M6
    generalize upd H6 t (.tup [.int i,.ref a])=H7 at *
    have S7:=S.fr T M7.R
    have hm:=ax hy
    have haD:c.D a:=.inr ⟨_,hm,rfl⟩
    obtain ⟨_,ha0⟩:=S.inD haD
    refine uQ (kvs:=ns.map kvI) (S7.ld _ hm) (λo n σ H8=>∃(x:Option V) (lds:List (Addr×List (Key×V))),σ=[some (.ref sd),some (.ref p),x,some (.int i),some (.ref a)]/\H8 a=some (.frz o (.dK (ns.map kvI)))/\MdI C Pt p c H H8 { g with kvs:=c.sk.map kvA,lds:=lds }/\LdN g.lds c.lds i n lds) ?_ ?_ ?_ ?_
    ·intro o H8 f8
     exact ⟨x,lds,rfl,f8.1,M7.frz S haD f8,L6⟩
    ·rintro o n σ H8 hn ⟨x,lds,rfl,h8,M8,L8⟩
     exact h8
    ·clear L6 M7 S7
     rintro o n u σ H8 hq ⟨x,lds,rfl,h8,M8,L8⟩
     obtain ⟨z,hz,rfl⟩:=VM hq
     have hzm:=ax hz
     obtain ⟨y0,y1,m0,m1⟩:=O.m2 _ hm z hzm
     have hl8:=L8.len
     have hi8:i<lds.length:=by
      have:=(List.getElem?_eq_some_iff.mp hy).1
      omega
     have hsl:g.slopes.length=lds.length:=by rw [esl,af,hl8,ll4,O.ldl]
     show uh 2 (V.int z.1) _ _ _
     walk_at "r"
     refine ⟨p,g.dx,_,rfl,M8.I.ob,qT ∅,?_⟩
     walk_at "r"
     refine ⟨a,.int z.2,rfl,(by rw [<- uJ (O.m1 _ hm) hzm,<- vg ns z.1 (bH hzm)];exact .inl ⟨_,.inl z.1,.inr ⟨o,h8⟩,rfl,rfl⟩),?_⟩
     refine ⟨p,_,(i:Int),z.1,z.2,rfl,M8.I,hsl.symm,(λx hx=>by obtain ⟨y,hy,e⟩:=L8.mem hx;rw [<- e];exact ny4 y hy),(by show (lds.map (·.1)).Nodup;rw [L8.fst];exact nd4),(λx hx=>?_),λH9 a9 kvs9 _ _ _ _ _ _ ha9 X9 I9=>?_,(λhb=>absurd hb (by show ¬((i:Int)<0\/(g.slopes.length:Int)<=i);omega)),(λ_ _ hb=>absurd hb ()),λ_ _ _ _ hb=>absurd hb ()⟩
     ·obtain ⟨j,hj,ex⟩:=List.mem_iff_getElem.mp hx
      obtain ⟨y,hy,e⟩:=L8.at_ j x (by rw [aa hj,ex])
      have h10:=O.m3 y (ax hy)
      rw [e,af]
      split
      ·omega
      ·split
       ·rw [aJ];omega
       ·exact aC _
     ·have ha9:lds[i]? = some (a9,kvs9):=ha9
      have L9:=L8.put hy (O.m1 _ hm) hz ha9
      have a90:H a9=none:=M8.F.lds _ (ax ha9)
      refine ⟨_,_,rfl,X9 _ _ h8 (j1 ha0 a90),⟨I9,⟨F4.p,F4.va,F4.cy,F4.sl,F4.ye,F4.le,F4.zs,λx hx=>?_⟩,M8.R.ext X9 a90,Qi M8.T (M8.I.lds _ (ax ha9)) X9⟩,L9⟩
      obtain ⟨y,hy,e⟩:=L9.mem hx
      rw [<- e]
      exact F4.lds y hy
    ·rintro o σ H8 ⟨x,lds,rfl,h8,M8,L8⟩
     exact ⟨x,_,_,lds,rfl,M8,L8.next hy (by rw [af];exact aq _)⟩
   ·rintro σ H6 ⟨x,y,z,lds,rfl,M6,L6⟩
    walk_at "r"
    refine k p H6 _ M6.I M6.F M6.R M6.T e1 e2 esl rfl (L6.len.trans ll4) (λl x hx=>?_) (λx hx=>?_) (by show (lds.map (·.1)).Nodup;rw [L6.fst];exact nd4)
    ·obtain ⟨y,hy,e⟩:=L6.at_ l x hx
     refine ⟨y,hy,?_⟩
     rw [e,if_pos (by rw [af];exact (List.getElem?_eq_some_iff.mp hy).1)]
    ·obtain ⟨y,hy,e⟩:=L6.mem hx
     rw [<- e]
     exact ny4 y hy
theorem wg {rs:List Rch}(h:zE rs=true):1<=rs.length/\rs.length<=8/\uG rs=true/\∀ws,qf rs ws->∀w∈ws,(ja rs w).length<=30:=by
 unfold zE at h
 rw [bf,bf,bf] at h
 obtain ⟨h1,h2,_,h4⟩:=h
 have h1:=of_decide_eq_true h1
 refine ⟨(),(),h2,λws hR w hw=>?_⟩
 obtain ⟨x,hx,e⟩:=hR.mem hw
 have:=of_decide_eq_true (List.all_eq_true.mp h4 x hx)
 have g:=kA rs w
 rw [<- e] at this
 omega
theorem gf {rs:List Rch}(G:Grown rs) {ws:List (List Int)}(R:qf rs ws) {w:List Int}(hw:w∈ws):1<=(ja rs w).length:=by
 obtain ⟨x,hx,e⟩:=R.mem hw
 have hl:=xx hx
 have o:=JI G.ok (aa hl)
 unfold okR at o
 rw [bf,bf] at o
 have o:=of_decide_eq_true o.1.2
 have eh:zN rs ((x:Int)).toNat=(rs[x]'hl).2:=by
  unfold zN
  rw [bE,ao,aa hl]
  rfl
 rw [e,zI (qk G.ok) hl]
 unfold ja
 rw [aN,lr,ak,eh]
 omega
theorem UQ {L b Pt:Addr}{Ha Hb:Hp}(B:qj L Ha b) (e:Ext b Ha Hb) (T:qK Ha Pt):qK Hb Pt:=by
 obtain ⟨ns,a,r,c,d,h1,_⟩:=B
 exact T.ext h1 e
structure Lw (C L b sd p:Addr) (c:ScN) (g:IceG) (H0 H:Hp):Prop where
 B:qj L H b
 S:ScAt H sd c
 I:IceAt C H p g
 O:ScOk b c
 F:IceFr H0 p g
 B0:qj L H0 b
 S0:ScAt H0 sd c
theorem Lw.same {C L b sd p:Addr}{c:ScN}{g:IceG}{H0 H H':Hp}(W:Lw C L b sd p c g H0 H) (s:jn H H'):Lw C L b sd p c g H0 H':=⟨W.B.same s,W.S.same s,W.I.same s,W.O,W.F,W.B0,W.S0⟩
theorem Lw.take {C L b sd p:Addr}{c:ScN}{g:IceG}{H0 H H':Hp}(W:Lw C L b sd p c g H0 H) (B:qj L H' b) (X:Ext b H H'):Lw C L b sd p c g H0 H' :=
 ⟨B,W.S.ext W.O W.B X,W.I.stay W.F (λa o h n=>X a o h (W.B0.ne n)) (zk W.B X),W.O,W.F,W.B0,W.S0⟩
theorem Lw.fr {C L b sd p:Addr}{c:ScN}{g:IceG}{H0 H H':Hp}(W:Lw C L b sd p c g H0 H) (f:FrM c.D H H'):Lw C L b sd p c g H0 H':=by
 refine ⟨?_,?_,W.I.stay W.F (λa o h n=>?_) (λa xs h=>f.at h (by walk_at "w")),W.O,W.F,W.B0,W.S0⟩
 ·obtain ⟨ns,a,r,c,d,h1,h2,h3,h4⟩:=W.B
  exact ⟨ns,a,r,c,d,f.at h1 (by walk_at "w"),h2,f.at h3 (by walk_at "w"),h4⟩
 ·exact W.S.keep (N:=λ_=>False) (λc o h _=>f c o h) (λ_ _ _ z=>z) id W.S.nD id id id id (λ_ _=>id) id (λ_ _=>id)
 ·rcases f a o h with z | ⟨m,_⟩
  ·exact z
  ·obtain ⟨_,q⟩:=W.S0.inD m
   rw [n] at q
   cases q
theorem Lw.start {C L b sd p Pt:Addr}{c:ScN}{g:IceG}{H2 H3:Hp}(S2:ScAt H2 sd c) (O:ScOk b c) (B2:qj L H2 b) (T2:qK H2 Pt) (I3:IceAt C H3 p g) (F3:IceFr H2 p g) (R3:Fr3 (λa=>a=Pt) c.D H2 H3):Lw C L b sd p c g H2 H3:=by
 refine ⟨?_,S2.fr T2 R3,I3,O,F3,B2,S2⟩
 obtain ⟨ps,hP⟩:=T2.ne
 obtain ⟨ns,a,r,c,d,h1,h2,h3,h4⟩:=B2
 exact ⟨ns,a,r,c,d,R3.at h1 (ji h1 hP (by walk_at "z")) (by walk_at "w"),h2,R3.at h3 (ji h3 hP (by walk_at "z")) (by walk_at "w"),h4⟩
structure Lk (c:ScN) (g:IceG):Prop where
 rs:g.rs=c.rs
 rows:g.rows=c.ts
 sl:g.slopes=c.ws.map (ja c.rs)
 kv:g.kvs=c.sk.map kvA
 ll:g.lds.length=c.lds.length
 ld:∀(l:Nat) x,g.lds[l]? = some x->∃y,c.lds[l]? = some y/\x.2=y.2.map kvI
 ny:∀x∈g.lds,x.1≠g.ye
 nd:(g.lds.map (·.1)).Nodup
structure LaneF (c:ScN) (g:IceG) (ln:Int) (wy:List Int) (da:Addr) (dn:List (Int×Int)):Prop where
 way:c.ws[ln.toNat]? = some wy
 sl:g.slopes.getD ln.toNat []=ja c.rs wy
 g1:1<=(ja c.rs wy).length
 g30:(ja c.rs wy).length<=30
 cd:c.lds[ln.toNat]? = some (da,dn)
 D:c.D da
 nd:(dn.map (·.1)).Nodup
 b:∀q∈dn,0<=q.1/\q.1<=99/\1<=q.2/\q.2<=9
 l10:dn.length<=10
 at_:Y5 g ln dn
 l0:0<=ln
 l1:ln<(g.slopes.length:Int)
theorem Lk.lane {b:Addr}{c:ScN}{g:IceG}(k:Lk c g) (O:ScOk b c) {ln:Int}(h0:0<=ln) (h1:ln<(c.ws.length:Int)):∃wy da dn,LaneF c g ln wy da dn:=by
 have hi:ln.toNat<c.ws.length:=()
 have hwy:=aa hi
 have hgs:g.slopes[ln.toNat]? = some (ja c.rs (c.ws[ln.toNat]'hi)):=by rw [k.sl,av,hwy];rfl
 have hl:g.slopes.length=c.ws.length:=by rw [k.sl,af]
 obtain ⟨⟨da,dn⟩,hda⟩:∃z,c.lds[ln.toNat]? = some z:=⟨_,aa (by rw [O.ldl];omega)⟩
 have hdm:=ax hda
 obtain ⟨⟨da2,dk⟩,hda2⟩:∃z,g.lds[ln.toNat]? = some z:=⟨_,aa (by rw [k.ll,O.ldl];omega)⟩
 obtain ⟨_,q1,q2⟩:=k.ld _ _ hda2
 rw [hda] at q1
 cases q1
 obtain rfl:dk=dn.map kvI:=q2
 have hm:=bY hi
 have h10:dn.length<=10:=O.m3 _ hdm
 exact ⟨_,da,dn,hwy,by rw [ao,hgs];rfl,gf O.gr O.ro hm,(wg (O.gr.good O.l1 O.l8)).2.2.2 c.ws O.ro _ hm,hda,.inr ⟨_,hdm,rfl⟩,O.m1 _ hdm,O.m2 _ hdm,h10,⟨h0,(),⟨da2,hda2⟩,O.m1 _ hdm,(),λq hq=>by have:=O.m2 _ hdm q hq;omega⟩,h0,()⟩
theorem LaneF.pos {c:ScN}{g:IceG}{ln:Int}{wy:List Int}{da:Addr}{dn:List (Int×Int)}(L:LaneF c g ln wy da dn):∀q∈dn,0<=q.1/\0<=q.2:=λq hq=>by have:=L.b q hq;omega
theorem ke {ns:List (Int×Int)}(h:∀q∈ns,0<=q.2) {y z:Int}(yz:y<=z):jc ns y<=jc ns z:=by
 induction ns with
 | nil=>exact mU _
 | cons q r ih =>
  rw [qe,qe]
  have a:=h q (aI ..)
  have b:=ih λz hz=>h z (aE _ hz)
  by_cases e:q.1<=y
  ·rw [if_pos e,if_pos ()];omega
  ·rw [if_neg e]
   split <;> omega
theorem xD {ns ms:List (Int×Int)}(p:ms.Perm ns) (s:(ms.map (·.1)).Pairwise (· <= ·)) (nd:(ns.map (·.1)).Nodup) (h:∀q∈ns,0<=q.1/\0<=q.2) (one len y:Int) (hy:0<=y):(0<=y+jc ns y-one/\y+jc ns y-one<len)↔(jp 0 0 ms one<=y/\y<jp 0 0 ms (one+len)):=by
 have hm:∀q∈ms,0<=q.1/\0<=q.2:=λq hq=>h q (p.mem_iff.mp hq)
 have ndm:(ms.map (·.1)).Nodup:=(p.map (·.1)).nodup_iff.mpr nd
 have st:=xB s ndm
 have key:∀goal:Int,(goal<=y+jc ns y↔jp 0 0 ms goal<=y):=λgoal=>by
  have:=J4 ms 0 0 goal y hm st hy
  rw [zu p,Int.add_zero] at this
  exact this
 have a:=key one
 have b:=key (one+len)
 constructor
 ·rintro ⟨c,d⟩
  refine ⟨a.mp (),?_⟩
  have:=mt b.mpr ()
  omega
 ·rintro ⟨c,d⟩
  have a':=a.mpr c
  have b':=mt b.mp ()
  omega
theorem zM {ns ms:List (Int×Int)}(p:ms.Perm ns) (s:(ms.map (·.1)).Pairwise (· <= ·)) (h:∀q∈ns,0<=q.1/\0<=q.2) (goal:Int):0<=jp 0 0 ms goal:=kT ms 0 0 goal (λq hq=>(h q (p.mem_iff.mp hq)).1) s
theorem uB {ns ms:List (Int×Int)}(p:ms.Perm ns) (s:(ms.map (·.1)).Pairwise (· <= ·)) (nd:(ns.map (·.1)).Nodup) (h:∀q∈ns,0<=q.1/\0<=q.2) (one len:Int) (hl:jp 0 0 ms one<jp 0 0 ms (one+len)):jp 0 0 ms (one+len)-1-jp 0 0 ms one<len:=by
 have f0:=zM p s h one
 have a:=(xD p s nd h one len _ f0).mpr ⟨mU _,hl⟩
 have b:=(xD p s nd h one len (jp 0 0 ms (one+len)-1) ()).mpr ⟨(),()⟩
 have m:=ke (λq hq=>(h q hq).2) (y:=jp 0 0 ms one) (z:=jp 0 0 ms (one+len)-1) ()
 omega
noncomputable def VS:Sp:=λvs H Q _=>∃(L b sd:Addr) (c:ScN),vs=[.ref b,.ref sd]/\qj L H b/\ScAt H sd c/\ScOk b c/\1<=c.ws.length/\c.ws.length<=6/\(∀w∈c.ws,1<=(ja c.rs w).length/\(ja c.rs w).length<=30) /\
 ∀(ln n:Int) (w:List Int) (t:Addr) (H':Hp),0<=ln->ln<(c.ws.length:Int)->c.ws[ln.toNat]? = some w->0<=n->n<((ja c.rs w).length:Int)->qj L H' b->Ext b H H'->H t=none->H' t=some (.tup [.int ln,.int n])->Q (.ref t) H'
theorem wo:FnScope ["_law_box_here","_law_scene_here","_law_lane"] ["_law_box_here","_law_scene_here"] (j8 vV):=by walk_at "s"
theorem Uy {f:Addr}{fd:FuncData}(nb:Nb2 mg) (c_law_take:Cal P w K mg base 2 "_law_take" ["_law_box_here","_law_size"] xP) (F:Fun K "_law_spot" "_law_spot" vV f fd):FnOk P w K mg base CX0 3 f fd ["_law_box_here","_law_scene_here"] VS:=by
 refine F.ok wo (λvs H Q E h=>?_) (λcdv A outer s H vs Q E hr h=>?_)
 ·obtain ⟨L,b,sd,c,rfl,_⟩:=h
  rfl
 ·obtain ⟨L,b,sd,c,rfl,B,S,O,hw1,hw6,hg,k⟩:=h
  have hzl:c.zs.length=c.ws.length:=(aK S.gi).trans (af _)
  refine ⟨_,(j4 (jt 2 wo.nd (je c_law_take (hr.mono ⋯) rfl (j0 (pv 0) (j0 (jf (jh K) rfl nb.b_len aT (j0 (jJ (jR hr) (pv 1) jF (λ_ _=>rfl)) j2)) j2))))
   (j9 (jk (jS (j0 (pv 2) (j0 (je c_law_take (hr.mono ⋯) rfl (j0 (pv 0) (j0 (jf (jh K) rfl nb.b_len aT (j0 (jo (jd K) (jJ (jR hr) (pv 1) jF (λ_ _=>rfl)) (pv 2) (λ_ _=>rfl)) j2)) j2))) j2)))))),?_⟩
  walk_at "r"
  refine ⟨sd,.ref c.gl,rfl,by rw [<- xH c.p c.q c.sg c.gl c.ll];exact qU.k (k:=.inr "grounds") S.sd,?_⟩
  walk_at "r"
  refine ⟨c.gl,_,rfl,.inl (SqL.of S.gl),?_⟩
  walk_at "r"
  refine ⟨L,b,_,rfl,B,⟨(),()⟩,λln H1 ln0 ln1 B1 X1=>?_⟩
  have S1:=S.ext O B X1
  have hi:ln.toNat<c.zs.length:=()
  obtain ⟨gw,hgw,ga,ega,hga⟩:=Paired.get S1.gi (aa hi)
  rw [av] at hgw
  obtain ⟨wy,hwy,rfl⟩:=Option.map_eq_some_iff.mp hgw
  have hgb:=hg wy (ax hwy)
  walk_at "r"
  refine ⟨sd,.ref c.gl,rfl,by rw [<- xH c.p c.q c.sg c.gl c.ll];exact qU.k (k:=.inr "grounds") S1.sd,?_⟩
  walk_at "r"
  refine ⟨_,_,_,_,rfl,rfl,SqL.of S1.gl,qS ln0 (v:=V.ref ga) (by rw [aa hi,ega]),?_⟩
  walk_at "r"
  refine ⟨ga,_,rfl,.inl (SqL.of hga),?_⟩
  rw [af]
  walk_at "r"
  refine ⟨L,b,_,rfl,B1,⟨(),()⟩,λn H2 n0 n1 B2 X2=>?_⟩
  walk_at "r"
  refine ⟨by show 2<=sizeLine;decide,λt H3 ht ht3 s3=>?_⟩
  have tb:t≠b:=B2.ne ht
  exact k ln n wy t H3 ln0 () hwy n0 n1 (B2.same s3) ((X1.trans X2).trans (Ext.of_same s3)) (X1.free (X2.free ht tb) tb) ht3
noncomputable def chg (t:T3) (h:Int):Int:=if t.1<=h then t.2.1 else-t.2.2
noncomputable def Qr:Sp:=λvs H Q _=>∃(p:Addr) (t:T3) (h:Int),vs=[.ref p,.int h]/\H p=some (yo t)/\Q (.int (chg t h)) H
theorem vk:FnScope ["row","height","line","snow","sun"] ["row","height"] (j8 kt):=by walk_at "s"
theorem Yl {f:Addr}{fd:FuncData}(F:Fun K "change" "change" kt f fd):FnOk P w K mg base CX0 1 f fd ["row","height"] Qr:=by
 refine F.ok vk (λvs H Q E h=>?_) (λcdv A outer s H vs Q E hr h=>?_)
 ·obtain ⟨p,t,h,rfl,_⟩:=h
  rfl
 ·obtain ⟨p,t,h,rfl,hp,k⟩:=h
  unfold chg at k
  refine ⟨_,(j4 (xG (pv 0) (qv (n:=3) K rfl (jm (jb (i:=2) vk.nd rfl (aP rfl)) (jm (jb (i:=3) vk.nd rfl (aP rfl)) (jm (jb (i:=4) vk.nd rfl (aP rfl)) qw)))))
   (j4 (jU (jz V7 (pv 1) (pv 2) (jG _)) (j9 (jk (pv 3))) jw)
   (j9 (jk (zX xJ (pv 4)))))),?_⟩
  walk_at "r"
  refine ⟨p,_,rfl,SqT.of hp,rfl,?_⟩
  refine ⟨_,_,rfl,_,_,rfl,_,_,rfl,rfl,?_⟩
  walk_at "r"
  refine qC (λh1=>?_) (λh1=>?_)
  ·walk_at "r"
   rw [if_pos h1] at k
   exact k
  ·walk_at "r"
   rw [if_neg h1] at k
   exact k
noncomputable def VA:Sp:=λvs H Q _=>∃(p:Addr) (t:T3) (h:Int),vs=[.ref p,.int h]/\H p=some (yo t)/\Q (.int (chg t h)) H
theorem QF:FnScope ["_law_row_here","_law_height"] ["_law_row_here","_law_height"] (j8 vJ):=by walk_at "s"
theorem Ue {f:Addr}{fd:FuncData}(F:Fun K "_law_wish" "_law_wish" vJ f fd):FnOk P w K mg base CX0 1 f fd ["_law_row_here","_law_height"] VA:=by
 refine F.ok QF (λvs H Q E h=>?_) (λcdv A outer s H vs Q E hr h=>?_)
 ·obtain ⟨p,t,h,rfl,_⟩:=h
  rfl
 ·obtain ⟨p,t,h,rfl,hp,k⟩:=h
  unfold chg at k
  have hp:H p=some (.tup [.int t.1,.int t.2.1,.int t.2.2]):=hp
  refine ⟨_,(j4 (jU (jz vw (pv 1) (jo (qo K) (pv 0) j7 (λ_ _=>rfl)) (jG _)) (j9 (jk (jq qG j7 (jo (qo K) (pv 0) j7 (λ_ _=>rfl))))) jw)
   (j9 (jk (jo (qo K) (pv 0) j7 (λ_ _=>rfl))))),?_⟩
  walk_at "r"
  refine qC (λh1=>?_) (λh1=>?_)
  ·walk_at "r"
   rw [if_neg (),show-t.2.2=0-t.2.2 by omega] at k
   exact k
  ·walk_at "r"
   rw [if_pos ()] at k
   exact k
noncomputable def zc (H:Hp) (sk:List (Int×Addr)) (wr:List (Int×T3)):Prop:=cG (λ(z:Int×Addr) (q:Int×T3)=>z.1=q.1/\H z.2=some (yo q.2)) sk wr
theorem zc.keep {H H':Hp}{sk:List (Int×Addr)}{wr:List (Int×T3)}(h:zc H sk wr) (t:jj H H'):zc H' sk wr:=Paired.mapP h λ_ _ ⟨e,q⟩=>⟨e,t _ _ q⟩
theorem zc.of {H:Hp}:∀{sk:List (Int×Addr)},(∀z∈sk,∃t,H z.2=some (yo t)/\good t=true)->∃wr,zc H sk wr
 | [],_=>⟨[],.nil⟩
 | z::r,h=>by
  obtain ⟨t,ht,_⟩:=h z (aI ..)
  obtain ⟨wr,hw⟩:=zc.of (sk:=r) λu hu=>h u (aE _ hu)
  exact ⟨(z.1,t)::wr,.cons ⟨rfl,ht⟩ hw⟩
noncomputable def zh (wr:List (Int×T3)) (ts:List T3) (y:Int):T3 :=
 match wr.find? λq=>decide (q.1=y) with
 | some q=>q.2
 | none=>ts.getD (y % (ts.length:Int)).toNat (0,0,0)
theorem hV {H:Hp}:∀{sk:List (Int×Addr)}{wr:List (Int×T3)},zc H sk wr->∀y:Int,
  (∃a q,jV (sk.map kvA) (.inl y)=some (.ref a)/\(wr.find? λq=>decide (q.1=y))=some q/\H a=some (yo q.2))\/(jV (sk.map kvA) (.inl y)=none/\(wr.find? λq=>decide (q.1=y))=none)
 | _,_,.nil,y=>.inr ⟨rfl,rfl⟩
 | z::sk,q::wr,.cons ⟨e,h⟩ r,y=>by
  rw [aN]
  by_cases c:z.1=y
  ·subst c
   exact .inl ⟨z.2,q,xh,by rw [fW (by rw [decide_eq_true e.symm])],h⟩
  ·have e1:jV (kvA z::sk.map kvA) (.inl y)=jV (sk.map kvA) (.inl y):=ju λw=>c (dR w)
   have e2:((q::wr).find? λq=>decide (q.1=y))=wr.find? λq=>decide (q.1=y):=fX (by rw [decide_eq_false (by rw [<- e];exact c)];exact au)
   rw [e1,e2]
   exact hV r y
theorem YS {H:Hp}{ys:List V}{ts:List T3}(r:jD H ys ts) (h1:1<=ts.length) (y:Int):∃a,atI ys (y % (ys.length:Int))=some (.ref a)/\H a=some (yo (ts.getD (y % (ts.length:Int)).toNat (0,0,0))):=by
 have hl:ys.length=ts.length:=r.length
 have n0:(0:Int)<ts.length:=()
 have m0:=eG y (show (ts.length:Int)≠0 by omega)
 have m1:=di y n0
 have hi:(y % (ts.length:Int)).toNat<ys.length:=()
 obtain ⟨t,ht,a,ea,ha⟩:=r.get (aa hi)
 refine ⟨a,?_,?_⟩
 ·rw [hl]
  exact qS m0 (by rw [aa hi,ea])
 ·rw [ao,ht]
  exact ha
noncomputable def Wf (C:Addr):Sp:=λvs H Q _=>∃(p:Addr) (g:IceG) (y:Int) (sk:List (Int×Addr)) (wr:List (Int×T3)),vs=[.ref p,.int y]/\IceAt C H p g/\g.kvs=sk.map kvA/\zc H sk wr/\1<=g.rows.length/\g.rows.length<=1000/\∀t,H t=some (yo (zh wr g.rows y))->Q (.ref t) H
theorem Xj:FnScope ["self","year"] ["self","year"] (j8 vK):=by walk_at "s"
theorem Xk {f C:Addr}{fd:FuncData}(nb:Nb2 mg) (T:IceC K C) (F:Fun K "sky" "Ice.sky" vK f fd):FnOk P w K mg base CX0 1 f fd ["self","year"] (Wf C):=by
 refine F.ok Xj (λvs H Q E h=>?_) (λcdv A outer s H vs Q E hr h=>?_)
 ·obtain ⟨p,g,y,sk,wr,rfl,_⟩:=h
  rfl
 ·obtain ⟨p,g,y,sk,wr,rfl,I,ek,hw,h1,h2,k⟩:=h
  have hye:H g.ye=some (.dK (sk.map kvA)):=by rw [<- ek];exact I.ye
  obtain ⟨ra,hra,hrow⟩:=YS I.rows h1 y
  refine ⟨_,(j9 (jk (k8 (jR hr) (xk K (pv 0)) (pv 1) (jo (jd K) (xk K (pv 0)) (jq za (pv 1) (jf (jh K) rfl nb.b_len aT (j0 (xk K (pv 0)) j2))) (λ_ _=>rfl)) ⟨rfl,rfl,rfl,rfl⟩))),?_⟩
  walk_at "r"
  refine ⟨p,C,g.dx,_,_,rfl,I.ob,T.cl,T.nY,wU _ _ _ _ _,?_⟩
  walk_at "r"
  refine ⟨.inl ⟨_,.inl hye⟩,?_⟩
  walk_at "r"
  refine ⟨p,C,g.dx,_,_,rfl,I.ob,T.cl,T.nC,kH _ _ _ _ _,?_⟩
  walk_at "r"
  refine ⟨p,C,g.dx,_,_,rfl,I.ob,T.cl,T.nC,kH _ _ _ _ _,?_⟩
  walk_at "r"
  refine ⟨g.cy,_,rfl,.inl (SqL.of I.cy),?_⟩
  have hl:g.ys.length=g.rows.length:=I.rows.length
  walk_at "r"
  refine ⟨_,_,_,_,rfl,rfl,SqL.of I.cy,hra,?_⟩
  rcases hV hw y with ⟨a,q,e1,e2,h⟩ | ⟨e1,e2⟩
  ·refine ⟨some (.ref a),by rw [<- e1];exact qU.k (k:=.inl y) hye,?_⟩
   exact k a (by unfold zh;rw [e2];exact h)
  ·refine ⟨none,by rw [<- e1];exact qU.k (k:=.inl y) hye,?_⟩
   exact k ra (by unfold zh;rw [e2];exact hrow)
noncomputable def VB:Sp:=λvs H Q _=>∃(sd:Addr) (c:ScN) (y:Int) (wr:List (Int×T3)),vs=[.ref sd,.int y]/\ScAt H sd c/\zc H c.sk wr/\1<=c.ts.length/\c.ts.length<=1000/\∀t,H t=some (yo (zh wr c.ts y))->Q (.ref t) H
theorem Z6:FnScope ["_law_scene_here","_law_year_here"] ["_law_scene_here","_law_year_here"] (j8 uE):=by walk_at "s"
theorem Gr {f:Addr}{fd:FuncData}(nb:Nb2 mg) (F:Fun K "_law_row" "_law_row" uE f fd):FnOk P w K mg base CX0 1 f fd ["_law_scene_here","_law_year_here"] VB:=by
 refine F.ok Z6 (λvs H Q E h=>?_) (λcdv A outer s H vs Q E hr h=>?_)
 ·obtain ⟨sd,c,y,wr,rfl,_⟩:=h
  rfl
 ·obtain ⟨sd,c,y,wr,rfl,S,hw,h1,h2,k⟩:=h
  refine ⟨_,(j4 (jU (VO (VX (jR hr) (pv 1) (jJ (jR hr) (pv 0) jF (λ_ _=>rfl))) (by with_unfolding_all rfl)) (j9 (jk (jJ (jR hr) (jJ (jR hr) (pv 0) jF (λ_ _=>rfl)) (pv 1) (λ_ _=>rfl)))) jw)
   (j9 (jk (jo (jd K) (jJ (jR hr) (pv 0) jF (λ_ _=>rfl)) (jq za (pv 1) (jf (jh K) rfl nb.b_len aT (j0 (jJ (jR hr) (pv 0) jF (λ_ _=>rfl)) j2))) (λ_ _=>rfl))))),?_⟩
  obtain ⟨ra,hra,hrow⟩:=YS S.r3 h1 y
  walk_at "r"
  refine ⟨sd,.ref c.sg,rfl,by rw [<- yg c.p c.q c.sg c.gl c.ll];exact qU.k (k:=.inr "single") S.sd,?_⟩
  rcases hV hw y with ⟨a,q,e1,e2,h⟩ | ⟨e1,e2⟩
  ·refine ⟨c.sg,some (.ref a),rfl,.inl ⟨_,.inl y,S.sg,rfl,e1.symm⟩,?_⟩
   walk_at "r"
   refine ⟨sd,.ref c.sg,rfl,by rw [<- yg c.p c.q c.sg c.gl c.ll];exact qU.k (k:=.inr "single") S.sd,?_⟩
   walk_at "r"
   refine ⟨c.sg,.ref a,rfl,.inl ⟨_,.inl y,S.sg,rfl,e1.symm⟩,?_⟩
   exact k a (by unfold zh;rw [e2];exact h)
  ·refine ⟨c.sg,none,rfl,.inl ⟨_,.inl y,S.sg,rfl,e1.symm⟩,?_⟩
   have hl:c.ys.length=c.ts.length:=S.r3.length
   walk_at "r"
   refine ⟨sd,.ref c.q,rfl,by rw [<- Jw c.p c.q c.sg c.gl c.ll];exact qU.k (k:=.inr "rows") S.sd,?_⟩
   walk_at "r"
   refine ⟨sd,.ref c.q,rfl,by rw [<- Jw c.p c.q c.sg c.gl c.ll];exact qU.k (k:=.inr "rows") S.sd,?_⟩
   walk_at "r"
   refine ⟨c.q,_,rfl,.inl (SqL.of S.q),?_⟩
   walk_at "r"
   refine ⟨_,_,_,_,rfl,rfl,SqL.of S.q,hra,?_⟩
   exact k ra (by unfold zh;rw [e2];exact hrow)
noncomputable abbrev Q4:=Int×Int×Int×Int
noncomputable abbrev tup4 (q:Q4):HO:=.tup [.int q.1,.int q.2.1,.int q.2.2.1,.int q.2.2.2]
noncomputable def qP (H:Hp) (out:List V) (qs:List Q4):Prop:=cG (λv (q:Q4)=>∃b,v=V.ref b/\H b=some (tup4 q)) out qs
theorem qP.keep {H H':Hp}{out:List V}{qs:List Q4}(h:qP H out qs) (t:jj H H'):qP H' out qs:=Paired.mapP h λ_ _ ⟨b,e,q⟩=>⟨b,e,t _ _ q⟩
noncomputable def plc (ns:List (Int×Int)) (m y:Int):Int:=y+jc ns y-m
noncomputable def yX (ns:List (Int×Int)) (gd:List Int) (wr:List (Int×T3)) (ts:List T3) (m y:Int):Int:=chg (zh wr ts y) (gd.getD (plc ns m y).toNat 0)
noncomputable def QQ (ns:List (Int×Int)) (gd:List Int) (wr:List (Int×T3)) (ts:List T3) (m fst:Int):Nat->Int
 | 0=>0
 | i+1=>QQ ns gd wr ts m fst i+(if yX ns gd wr ts m (fst+(i:Int)) > - QQ ns gd wr ts m fst i then yX ns gd wr ts m (fst+(i:Int)) else-QQ ns gd wr ts m fst i)
noncomputable def JH (ns:List (Int×Int)) (gd:List Int) (wr:List (Int×T3)) (ts:List T3) (m fst:Int) (i:Nat):Q4 :=
 (fst+(i:Int),plc ns m (fst+(i:Int)),(if yX ns gd wr ts m (fst+(i:Int)) > - QQ ns gd wr ts m fst i then yX ns gd wr ts m (fst+(i:Int)) else-QQ ns gd wr ts m fst i),QQ ns gd wr ts m fst (i+1))
noncomputable def wk (ns:List (Int×Int)) (gd:List Int) (wr:List (Int×T3)) (ts:List T3) (m fst:Int) (n:Nat):List Q4:=(aG n).map (JH ns gd wr ts m fst)
noncomputable def jW (ms:List (Int×Int)) (gd:List Int) (wr:List (Int×T3)) (ts:List T3) (m:Int):List Q4:=wk ms gd wr ts m (jp 0 0 ms m) (jp 0 0 ms (m+(gd.length:Int))-jp 0 0 ms m).toNat
theorem XQ (ns:List (Int×Int)) (gd:List Int) (wr:List (Int×T3)) (ts:List T3) (m fst:Int) (n:Nat):wk ns gd wr ts m fst (n+1)=wk ns gd wr ts m fst n++[JH ns gd wr ts m fst n]:=by
 unfold wk
 rw [ck,aB]
 rfl
theorem wc:∀{xs ys:List (Int×Int)},xs.Perm ys->(xs.map (·.1)).Pairwise (· < ·)->(ys.map (·.1)).Pairwise (· < ·)->xs=ys
 | [],ys,p,_,_=>p.nil_eq
 | x::r,[],p,_,_=>absurd p.length_eq (by simp)
 | x::r,y::t,p,hx,hy=>by
  rw [aN,ft] at hx hy
  have e:x=y:=by
   rcases List.mem_cons.mp (p.mem_iff.mpr (aI (a:=y) (l:=t))) with e | e
   ·exact e.symm
   ·rcases List.mem_cons.mp (p.mem_iff.mp (aI (a:=x) (l:=r))) with e2 | e2
    ·exact e2
    ·have a:=hx.1 _ (bH e)
     have b:=hy.1 _ (bH e2)
     omega
  subst e
  rw [wc (nW p) hx.2 hy.2]
theorem vv {ns ms os:List (Int×Int)}(nd:(ns.map (·.1)).Nodup) (p:ms.Perm ns) (s:(ms.map (·.1)).Pairwise (· <= ·)) (q:os.Perm ns) (t:(os.map (·.1)).Pairwise (· <= ·)):os=ms :=
 wc (q.trans p.symm) (xB t ((q.map (·.1)).nodup_iff.mpr nd)) (xB s ((p.map (·.1)).nodup_iff.mpr nd))
theorem wX:∀{ns:List (Int×Int)},(ns.map (·.1)).Nodup->∀y:Int,jc ns (y+1)=jc ns y+qW ns (y+1)
 | [],_,y=>rfl
 | q::r,nd,y=>by
  rw [aN] at nd
  obtain ⟨h1,h2⟩:=List.nodup_cons.mp nd
  have ih:=wX h2 y
  rw [qe,qe]
  unfold qW
  by_cases e:q.1=y+1
  ·have z:qW r (y+1)=0:=by
    have:∀{l:List (Int×Int)} {y:Int},y∉l.map (·.1)->qW l y=0:=λ{l}=>by
     induction l with
     | nil=>intro _ _;rfl
     | cons a t ih2 =>
      intro y hy
      rw [aN,eK,not_or] at hy
      unfold qW
      rw [if_neg (λz=>hy.1 z.symm)]
      exact ih2 hy.2
    exact this (by rw [<- e];exact h1)
   rw [if_pos e,if_pos (),if_neg ()]
   omega
  ·rw [if_neg e]
   by_cases l:q.1<=y
   ·rw [if_pos l,if_pos ()];omega
   ·rw [if_neg l,if_neg ()];omega
theorem gC:∀(ns:List (Int×Int)) (y:Int),(jV (ns.map kvI) (.inl y)).getD (.int 0) = .int (qW ns y)
 | [],y=>rfl
 | q::r,y=>by
  rw [aN]
  unfold qW
  by_cases e:q.1=y
  ·subst e
   rw [if_pos rfl,show jV (kvI q::r.map kvI) (.inl q.1)=some (.int q.2) from xh]
   rfl
  ·rw [if_neg e,show jV (kvI q::r.map kvI) (.inl y)=jV (r.map kvI) (.inl y) from ju λw=>e (dR w)]
   exact gC r y
noncomputable def Vw (C CN:Addr):Sp:=λvs H Q E=>∃(p:Addr) (g:IceG) (l m:Int) (sk:List (Int×Addr)) (wr:List (Int×T3)),vs=[.ref p,.int l,.int m]/\IceAt C H p g/\g.lds.length=g.slopes.length/\g.kvs=sk.map kvA/\zc H sk wr/\1<=g.rows.length/\g.rows.length<=1000 /\
 (∀H',jn H H'->l<0\/(g.slopes.length:Int)<=l->E (.ref CN) none H') /\
 (0<=l->l<(g.slopes.length:Int)->∃ns ms,Y5 g l ns/\(∀q∈ns,0<=q.1)/\(g.slopes.getD l.toNat []).length<=100/\ms.Perm ns/\(ms.map (·.1)).Pairwise (· <= ·) /\
  ∀o H' out,H o=none->H' o=some (.lst out)->qP H' out (jW ms (g.slopes.getD l.toNat []) wr g.rows m)->jn H H'->Q (.ref o) H')
theorem x0:FnScope ["ice","lane","mark","years","first","last","surges","leaps","place","rows","lying","year","moved"] ["ice","lane","mark"] (j8 XH):=by walk_at "s"
theorem Ux {f C CN CP:Addr}{fd:FuncData}(nb:Nb2 mg) (b_dict:mg "dict" = none) (cl_Ice:Cls K C) (c_span:CalX P w K mg base 3 "span" ["ice","lane","mark"] (YR C CN)) (c_Ice__surges:CalMX P w K mg base 2 C "surges" ["self","lane"] (vf C CN)) (c_ride_by:Cal P w K mg base 1 "ride_by" ["surges","year"] wI)
  (c_change:Cal P w K mg base 1 "change" ["row","height"] Qr) (c_Ice__sky:CalM P w K mg base 1 C "sky" ["self","year"] (Wf C)) (c_Ice__height:CalMX P w K mg base 3 C "height" ["self","lane","place"] (J0 C CN CP))
  (F:Fun K "life" "life" XH f fd):FnOk P w K mg base (CX1 P w) 4 f fd ["ice","lane","mark"] (Vw C CN):=by
 refine Fun.okX F x0 (λvs H Q E h=>?_) (λcdv A outer s H vs Q E hr h=>?_)
 ·obtain ⟨p,g,l,m,sk,wr,rfl,_⟩:=h
  rfl
 ·obtain ⟨p,g,l,m,sk,wr,rfl,I,hll,ek,hw,hr1,hr2,kx,k⟩:=h
  refine ⟨_,(j4 (jt 3 x0.nd (zi c_span (hr.mono ⋯) qM rfl (j0 (pv 0) (j0 (pv 1) (j0 (pv 2) j2)))))
   (j4 (jU (jz Z2 (pv 3) JA (jG _)) (j9 (jk (jL j2))) jw)
   (j4 (xG (pv 3) (qv (n:=2) K rfl (jm (jb (i:=4) x0.nd rfl (aP rfl)) (jm (jb (i:=5) x0.nd rfl (aP rfl)) qw))))
   (j4 (jt 6 x0.nd (y4 (pv 0) cl_Ice c_Ice__surges (hr.mono ⋯) qM (j0 (pv 1) j2)))
   (j4 (jt 7 x0.nd (qI (Xp K rfl) rfl b_dict ma (j0 (pv 6) j2)))
   (j4 (jt 8 x0.nd (jq qG (je c_ride_by (hr.mono ⋯) rfl (j0 (pv 6) (j0 (pv 4) j2))) (pv 2)))
   (j4 (jt 9 x0.nd (jL j2))
   (j4 (jt 10 x0.nd j7)
   (j4 (Xv (qt aV rfl (Y1 rfl nb.b_range (j0 (pv 4) (j0 (jq jN (pv 5) j7) j2))) (jb (i:=11) x0.nd rfl (aP rfl)) (j4 (jt 12 x0.nd (jf (yh rfl) rfl nb.b_max oQ (j0 (zX xJ (pv 10)) (j0 (je c_change (hr.mono ⋯) rfl (j0 (pe_m (pv 0) cl_Ice c_Ice__sky (hr.mono ⋯) (j0 (pv 11) j2)) (j0 (y4 (pv 0) cl_Ice c_Ice__height (hr.mono ⋯) JC (j0 (pv 1) (j0 (pv 8) j2))) j2))) j2))))
   (j4 (XV (i:=10) x0.nd rfl (aP rfl) (pv 12) Zh)
   (j4 (jM (xu K aX aZ b7 jZ (pv 9) (j0 (jS (j0 (pv 11) (j0 (pv 8) (j0 (pv 12) (j0 (pv 10) j2))))) j2)))
   (j9 (XV (i:=8) x0.nd rfl (aP rfl) (jq jN j7 (k8 (jR hr) (pv 7) (jq jN (pv 11) j7) j7 ⟨rfl,rfl,rfl,rfl⟩)) Zh)))))))
   (j9 (jk (pv 9)))))))))))),?_⟩
  walk_at "r"
  refine ⟨p,g,l,m,rfl,I,hll,kx,λl0 l1=>?_⟩
  obtain ⟨ns,ms,⟨_,_,⟨a,ha⟩,nd,h64,h9⟩,hp0,g100,hp,hs,k⟩:=k l0 l1
  have hpos:∀q∈ns,0<=q.1/\0<=q.2:=λq hq=>⟨hp0 q hq,(h9 q hq).1⟩
  refine ⟨a,ns,ha,nd,h64,λos hos hss fst gon e1 e2=>?_⟩
  obtain rfl:=vv nd hp hs hos hss
  clear hos hss
  refine ⟨λhlt t H1 s1 ht1=>?_,λhlt H1 s1=>?_⟩
  ·have hn:(gon-1+1-fst).toNat=(gon-fst).toNat:=()
   have on:=λw hw=>xD hp hs nd hpos m (g.slopes.getD l.toNat []).length w hw
   have f0:=zM hp hs hpos m
   have spl:=uB hp hs nd hpos m (g.slopes.getD l.toNat []).length (by rw [<- e1,<- e2];exact hlt)
   unfold jW at k
   rw [<- e1,<- e2] at k spl
   rw [<- e1] at f0
   rw [<- e1,<- e2] at on
   have sper:=λy=>zu hp y
   have ndm:(os.map (·.1)).Nodup:=(hp.map (·.1)).nodup_iff.mpr nd
   have h9m:∀q∈os,0<=q.2/\q.2<=9:=λq hq=>h9 q (hp.mem_iff.mp hq)
   have hlm:os.length<64:=by rw [hp.length_eq];exact h64
   clear e1 e2
   generalize hgd:g.slopes.getD l.toNat []=gd at *
   walk_at "r"
   refine ⟨t,_,rfl,SqT.of ht1,rfl,?_⟩
   refine ⟨_,_,rfl,_,_,rfl,rfl,?_⟩
   walk_at "r"
   refine ⟨p,g.dx,_,rfl,s1 _ _ I.ob,qT ∅,?_⟩
   walk_at "r"
   refine ⟨p,g,l,rfl,I.same s1,hll,(λhb=>absurd hb ()),λ_ _=>⟨a,ns,ha,nd,h64,λso H2 out ms2 hso hso2 hq2 s2 hp2 hs2=>?_⟩⟩
   obtain rfl:=vv nd hp hs hp2 hs2
   walk_at "r"
   refine ⟨so,out,ms2,rfl,SqL.of hso2,hq2,ndm,(),λd H3 hd hd3 s3=>?_⟩
   have hd3:H3 d=some (.dK (ms2.map kvI)):=hd3
   walk_at "r"
   refine ⟨so,out,ms2,fst,rfl,s3 _ _ hso2,qd.same hq2 s3,(),h9m,λH4 s4=>?_⟩
   walk_at "r"
   refine ⟨aC _,λrw_ H5 hrw hrw5 s5=>?_⟩
   have S4:jn H H4:=((s1.trans s2).trans s3).trans s4
   have d4:=s4 _ _ hd3
   have rw0:H rw_=none:=S4.free hrw
   walk_at "r"
   refine ⟨_,_,rfl,?_⟩
   refine qR (λi σ H6=>∃(x y:Option V) (out6:List V),σ=[some (.ref p),some (.int l),some (.int m),some (.ref t),some (.int fst),some (.int (gon-1)),some (.ref so),some (.ref d),some (.int (plc ms2 m (fst+(i:Int)))),some (.ref rw_),some (.int (QQ ms2 gd wr g.rows m fst i)),x,y]/\H6 rw_=some (.lst out6)/\out6.length=i/\qP H6 out6 (wk ms2 gd wr g.rows m fst i)/\Ext rw_ H4 H6) ?_ ?_ ?_
   ·refine ⟨none,none,[],?_,hrw5,rfl,.nil,λc o hc _=>s5 _ _ hc⟩
    rw [show fst+((0:Nat):Int)=fst by omega]
    rfl
   ·rintro i σ H6 hi ⟨x,y,out6,rfl,h6,hl6,r6,e6⟩
    rw [hn] at hi
    have y0:0<=fst+(i:Int):=()
    have onp:=(on _ y0).mpr ⟨(),()⟩
    rw [<- sper] at onp
    have onp:0<=plc ms2 m (fst+(i:Int))/\plc ms2 m (fst+(i:Int))<(gd.length:Int):=onp
    have s6:jn H4 H6:=λc o hc=>e6 c o hc (j1 hc hrw)
    have I6:=I.same (S4.trans s6)
    have hw6:zc H6 sk wr:=hw.keep (jj.same (S4.trans s6))
    walk_at "r"
    refine ⟨p,g.dx,_,rfl,I6.ob,qT ∅,?_⟩
    walk_at "r"
    refine ⟨p,g,fst+(i:Int),sk,wr,rfl,I6,ek,hw6,hr1,hr2,λtr htr=>?_⟩
    walk_at "r"
    refine ⟨p,g.dx,_,rfl,I6.ob,qT ∅,?_⟩
    walk_at "r"
    refine ⟨p,g,l,plc ms2 m (fst+(i:Int)),rfl,I6,λ_ _ _ _=>?_,(λhb=>absurd hb ()),λ_ _ hb=>absurd hb (by rw [hgd];omega)⟩
    rw [hgd]
    walk_at "r"
    refine ⟨tr,_,_,rfl,htr,?_⟩
    walk_at "r"
    refine ⟨_,_,rfl,?_⟩
    walk_at "r"
    refine ⟨.inl ⟨rfl,_,SqL.of h6⟩,?_⟩
    walk_at "r"
    refine ⟨by show 4<=sizeLine;decide,λtq H7 htq htq7 s7=>?_⟩
    refine ⟨_,_,_,rfl,rfl,s7 _ _ h6,jg (),?_⟩
    have d7:upd H7 rw_ (.lst (out6++[.ref tq])) d=some (.dK (ms2.map kvI)):=by rw [j6 (j1 d4 hrw)];exact s7 _ _ (s6 _ _ d4)
    have tqr:tq≠rw_:=(j1 h6 htq).symm
    walk_at "r"
    refine ⟨.inl ⟨_,.inl d7⟩,?_⟩
    walk_at "r"
    refine ⟨_,qU.k (k:=.inl (fst+(i:Int)+1)) d7,?_⟩
    rw [gC]
    walk_at "r"
    have epl:plc ms2 m (fst+((i+1:Nat):Int))=plc ms2 m (fst+(i:Int))+(1+qW ms2 (fst+(i:Int)+1)):=by
     have:=wX ndm (fst+(i:Int))
     rw [show fst+((i+1:Nat):Int)=fst+(i:Int)+1 by omega]
     unfold plc
     omega
    refine ⟨_,_,out6++[.ref tq],by rw [epl];rfl,j5,by rw [ak,hl6];rfl,?_,λc o hc n=>by rw [j6 n];exact s7 _ _ (e6 c o hc n)⟩
    rw [XQ]
    exact bL (r6.keep λa xs q=>by rw [j6 (ji (s7 _ _ q) (s7 _ _ h6) (by walk_at "z"))];exact s7 _ _ q) ⟨tq,rfl,by rw [j6 tqr];exact htq7⟩
   ·rintro σ H6 ⟨x,y,out6,rfl,h6,hl6,r6,e6⟩
    rw [hn] at r6
    walk_at "r"
    exact k rw_ H6 out6 rw0 h6 r6 (S4.trans λc o hc=>e6 c o hc (j1 hc hrw))
  ·have hz:(gon-fst).toNat=0:=()
   unfold jW at k
   rw [<- e1,<- e2,hz] at k
   walk_at "r"
   refine ⟨aC _,λo H2 ho ho2 s2=>?_⟩
   exact k o H2 [] (s1.free ho) ho2 .nil (s1.trans s2)
theorem Uq (xs:List V) (k:Nat):Ju xs none (some (k:Int))=xs.take k:=by
 unfold Ju
 rw [HT.sIx_none,HT.sIx_nat,sf,oU]
 by_cases h:k<=xs.length
 ·rw [pS h]
 ·rw [pC (),bJ (aq _)]
  exact (bJ ()).symm
theorem Y4 (xs:List V) (k:Nat):Ju xs (some (k:Int)) none=xs.drop k:=by
 unfold Ju
 rw [HT.sIx_none,HT.sIx_nat]
 by_cases h:k<=xs.length
 ·rw [pS h]
  exact bJ (by rw [d6];omega)
 ·rw [pC (),cE (aq _),List.take_nil]
  exact (cE ()).symm
theorem qP.drop {H:Hp}:∀(n:Nat) {out:List V}{qs:List Q4},qP H out qs->qP H (out.drop n) (qs.drop n)
 | 0,_,_,r=>r
 | _+1,_,_,.nil=>.nil
 | n+1,_,_,.cons _ r=>qP.drop n r
theorem XU {ms:List (Int×Int)}{gd:List Int}{wr:List (Int×T3)}{ts:List T3}{m:Int}{i:Nat}(h:i<(jp 0 0 ms (m+(gd.length:Int))-jp 0 0 ms m).toNat):(jW ms gd wr ts m)[i]? = some (JH ms gd wr ts m (jp 0 0 ms m) i):=by
 unfold jW wk
 rw [av,dI h]
 rfl
theorem zq (ms:List (Int×Int)) (gd:List Int) (wr:List (Int×T3)) (ts:List T3) (m:Int):(jW ms gd wr ts m).length=(jp 0 0 ms (m+(gd.length:Int))-jp 0 0 ms m).toNat:=by
 unfold jW wk
 rw [af,br]
noncomputable def Xg (C CN CP CY:Addr):Sp:=λvs H Q E=>∃(p:Addr) (g:IceG) (l n y:Int) (sk:List (Int×Addr)) (wr:List (Int×T3)),vs=[.ref p,.int l,.int n,.int y]/\IceAt C H p g/\g.lds.length=g.slopes.length/\g.kvs=sk.map kvA/\zc H sk wr/\1<=g.rows.length/\g.rows.length<=1000 /\
 (l<0\/(g.slopes.length:Int)<=l->E (.ref CN) none H)/\(0<=l->l<(g.slopes.length:Int)->n<0\/((g.slopes.getD l.toNat []).length:Int)<=n->E (.ref CP) none H) /\
 (0<=l->l<(g.slopes.length:Int)->0<=n->n<((g.slopes.getD l.toNat []).length:Int)->∃ns ms,Y5 g l ns/\(∀q∈ns,0<=q.1)/\(g.slopes.getD l.toNat []).length<=100/\ms.Perm ns/\(ms.map (·.1)).Pairwise (· <= ·)/\(∀H',jn H H'->y<0\/10 ^ 40<y->E (.ref CY) none H') /\
  (0<=y->y<=10 ^ 40->∀t a1 a2 out H',H t=none->H a1=none->H a2=none->H' t=some (.tup [.ref a1,.ref a2])->H' a1=some (.lst (out.take (y-jp 0 0 ms (y+jc ns y-n)).toNat))->H' a2=some (.lst (out.drop (y-jp 0 0 ms (y+jc ns y-n)).toNat))->qP H' out (jW ms (g.slopes.getD l.toNat []) wr g.rows (y+jc ns y-n))->jn H H'->Q (.ref t) H'))
theorem uV:FnScope ["ice","lane","place","year","rows","lived"] ["ice","lane","place","year"] (j8 wN):=by walk_at "s"
theorem Y8 {f C CN CP CY:Addr}{fd:FuncData}(cl_Ice:Cls K C) (c_Ice__check_place:CalMX P w K mg base 2 C "check_place" ["self","lane","place"] (yB C CN CP)) (c_ridden:CalX P w K mg base 3 "ridden" ["ice","lane","year"] (Qg C CN CY)) (c_life:CalX P w K mg base 4 "life" ["ice","lane","mark"] (Vw C CN))
  (F:Fun K "parted" "parted" wN f fd):FnOk P w K mg base (CX1 P w) 5 f fd ["ice","lane","place","year"] (Xg C CN CP CY):=by
 refine Fun.okX F uV (λvs H Q E h=>?_) (λcdv A outer s H vs Q E hr h=>?_)
 ·obtain ⟨p,g,l,n,y,sk,wr,rfl,_⟩:=h
  rfl
 ·obtain ⟨p,g,l,n,y,sk,wr,rfl,I,hll,ek,hw,hr1,hr2,kl,kp,k⟩:=h
  refine ⟨_,(j4 (jM (y4 (pv 0) cl_Ice c_Ice__check_place (hr.mono ⋯) qM (j0 (pv 1) (j0 (pv 2) j2))))
   (j4 (jt 4 uV.nd (zi c_life (hr.mono ⋯) qM rfl (j0 (pv 0) (j0 (pv 1) (j0 (jq qG (zi c_ridden (hr.mono ⋯) qM rfl (j0 (pv 0) (j0 (pv 1) (j0 (pv 3) j2)))) (pv 2)) j2)))))
   (j4 (jt 5 uV.nd (jq qG (pv 3) (jo (qo K) (jo (jd K) (pv 4) j7 (λ_ _=>rfl)) j7 (λ_ _=>rfl))))
   (j9 (jk (jS (j0 (Qt (J9 K) (pv 4) Zy (ZP (pv 5))) (j0 (Qt (J9 K) (pv 4) (ZP (pv 5)) Zy) j2)))))))),?_⟩
  walk_at "r"
  refine ⟨p,g.dx,_,rfl,I.ob,qT ∅,?_⟩
  walk_at "r"
  refine ⟨p,g,l,n,rfl,I,λl0 l1 n0 n1=>?_,λhb=>kl hb,λl0 l1 hb=>kp l0 l1 hb⟩
  obtain ⟨ns,ms,hL,hp0,g100,hp,hs,ky,k⟩:=k l0 l1 n0 n1
  have hpos:∀q∈ns,0<=q.1/\0<=q.2:=λq hq=>⟨hp0 q hq,(hL.2.2.2.2.2 q hq).1⟩
  have nd:(ns.map (·.1)).Nodup:=hL.2.2.2.1
  walk_at "r"
  refine ⟨p,g,l,y,rfl,I,hll,(λhb=>absurd hb ()),λ_ _=>⟨ns,hL,ky,λH1 s1 y0 y1=>?_⟩⟩
  have k:=k y0 y1
  have e0:y+jc ns y-(y+jc ns y-n)=n:=()
  have onm:=(xD hp hs nd hpos (y+jc ns y-n) (g.slopes.getD l.toNat []).length y y0).mp (by rw [e0];exact ⟨n0,n1⟩)
  have hlo:=zq ms (g.slopes.getD l.toNat []) wr g.rows (y+jc ns y-n)
  have hg0:=XU (ms:=ms) (gd:=g.slopes.getD l.toNat []) (wr:=wr) (ts:=g.rows) (m:=y+jc ns y-n) (i:=0) ()
  obtain ⟨m,em⟩:∃m,y+jc ns y-n=m:=⟨_,rfl⟩
  rw [em] at k onm hlo hg0
  walk_at "r"
  refine ⟨p,g,l,m,sk,wr,by rw [<- em],I.same s1,hll,ek,hw.keep (jj.same s1),hr1,hr2,(λH' _ hb=>absurd hb ()),λ_ _=>⟨ns,ms,hL,hp0,g100,hp,hs,λo H2 out ho ho2 r2 s2=>?_⟩⟩
  have hol:out.length=(jW ms (g.slopes.getD l.toNat []) wr g.rows m).length:=aK r2
  have h0:0<out.length:=()
  obtain ⟨q0,hq0,b0,ev0,hb0⟩:=Paired.get r2 (aa h0)
  rw [hg0] at hq0
  have eq0:q0.1=jp 0 0 ms m:=by
   cases hq0
   show jp 0 0 ms m+((0:Nat):Int)=_
   omega
  have hb0:H2 b0=some (.tup [.int q0.1,.int q0.2.1,.int q0.2.2.1,.int q0.2.2.2]):=hb0
  walk_at "r"
  refine ⟨_,_,_,_,rfl,rfl,SqL.of ho2,qS ⋯ (v:=V.ref b0) (by show out[0]? = _;rw [aa h0,ev0]),?_⟩
  walk_at "r"
  have ek2:y-q0.1=(((y-jp 0 0 ms m).toNat:Nat):Int):=by rw [eq0];omega
  refine ⟨_,_,rfl,SqL.of ho2,λa1 H3 ha1 ha13 s3=>?_⟩
  walk_at "r"
  refine ⟨_,_,rfl,SqL.of (s3 _ _ ho2),λa2 H4 ha2 ha24 s4=>?_⟩
  have ha13:H3 a1=some (.lst (out.take (y-jp 0 0 ms m).toNat)):=by rw [ha13,<- Uq,<- ek2]
  have ha24:H4 a2=some (.lst (out.drop (y-jp 0 0 ms m).toNat)):=by rw [ha24,<- Y4,<- ek2]
  walk_at "r"
  refine ⟨by show 2<=sizeLine;decide,λt H5 ht ht5 s5=>?_⟩
  have t2:=s1.trans s2
  have t3:=t2.trans s3
  exact k t a1 a2 out H5 ((t3.trans s4).free ht) (t2.free ha1) (t3.free ha2) ht5 (s5 _ _ (s4 _ _ ha13)) (s5 _ _ ha24) (r2.keep (jj.same (s3.trans (s4.trans s5)))) (t3.trans (s4.trans s5))
theorem vz (ns:List (Int×Int)):∃ms:List (Int×Int),ms.Perm ns/\(ms.map (·.1)).Pairwise (· <= ·):=by
 refine ⟨ns.mergeSort (λa b=>decide (a.1<=b.1)),List.mergeSort_perm _ _,?_⟩
 rw [List.pairwise_map]
 exact (List.pairwise_mergeSort (λa b c h1 h2=>by simp at *;omega) (λa b=>by simp;omega) ns).imp λh=>by simpa using h
theorem zc.good {H:Hp}:∀{sk:List (Int×Addr)}{wr:List (Int×T3)},zc H sk wr->(∀z∈sk,∃t,H z.2=some (yo t)/\good t=true)->∀q∈wr,good q.2=true
 | _,_,.nil,_,q,hq=>by cases hq
 | z::r,x::t,.cons ⟨_,h⟩ tl,g,q,hq=>by
  rcases List.mem_cons.mp hq with e | e
  ·subst e
   obtain ⟨u,hu,gu⟩:=g z (aI ..)
   rw [h] at hu
   have:yo q.2=yo u:=aR hu
   have e1:q.2.1=u.1:=by injection this with this;injection this with a b;exact V.int.inj a
   have e2:q.2.2.1=u.2.1:=by injection this with this;injection this with a b;injection b with b c;exact V.int.inj b
   have e3:q.2.2.2=u.2.2:=by injection this with this;injection this with a b;injection b with b c;injection c with c d;exact V.int.inj c
   rw [show q.2=u from Prod.ext e1 (Prod.ext e2 e3)]
   exact gu
  ·exact zc.good tl (λz hz=>g z (aE _ hz)) q e
theorem YY {wr:List (Int×T3)}{ts:List T3}(h1:∀q∈wr,good q.2=true) (h2:ts.all good=true) (h3:1<=ts.length) (y:Int):good (zh wr ts y)=true:=by
 unfold zh
 cases e:wr.find? λq=>decide (q.1=y) with
 | some q=>exact h1 q (dm e)
 | none =>
  have m0:=eG y (show (ts.length:Int)≠0 by omega)
  have m1:=di y (show (0:Int)<ts.length by omega)
  have hi:(y % (ts.length:Int)).toNat<ts.length:=()
  show good (ts.getD (y % (ts.length:Int)).toNat (0,0,0))=true
  rw [ao,aa hi]
  exact List.all_eq_true.mp h2 _ (bY hi)
theorem VZ {t:T3}(g:good t=true) (h:Int):chg t h<=9:=by
 unfold good at g
 have:=of_decide_eq_true g
 unfold chg
 split <;> omega
noncomputable def yH:Int->List Q4->List Q4
 | _,[]=>[]
 | b,q::r=>(q.1,q.2.1,q.2.2.2-min b q.2.2.2,min b q.2.2.2)::(if q.2.2.2=0 then [] else yH (min b q.2.2.2) r)
noncomputable def y6 (rows:List Q4):List Q4:=yH (rows.headD (0,0,0,0)).2.2.2 rows
theorem UZ {b:Int}{q:Q4}{r:List Q4}:yH b (q::r)≠[]:=by
 unfold yH
 exact List.cons_ne_nil _ _
theorem kB:∀(rows:List Q4) (b:Int),(yH b rows).length<=rows.length
 | [],_=>aq _
 | q::r,b=>by
  unfold yH
  rw [bb,bb]
  have:=kB r (min b q.2.2.2)
  split
  ·exact bZ (aC _)
  ·omega
noncomputable def yf (st:List (Int×Int)) (q:Q4):List (Int×Int) :=
 if q.2.2.1=0 then st else
  match st.getLast? with
  | some p=>if p.2=q.1-1 then st.dropLast++[(p.1,q.1)] else st++[(q.1,q.1)]
  | none=>st++[(q.1,q.1)]
noncomputable def yI (rows:List Q4):List (Int×Int):=rows.foldl yf []
noncomputable def Hd (rows:List Q4) (t:Int):Prop:=∃q∈rows,q.1=t/\q.2.2.1≠0
noncomputable def Zz (C CN CP CY:Addr):Sp:=λvs H Q E=>∃(p:Addr) (g:IceG) (l n y:Int) (sk:List (Int×Addr)) (wr:List (Int×T3)),vs=[.ref p,.int l,.int n,.int y]/\IceAt C H p g/\g.lds.length=g.slopes.length/\g.kvs=sk.map kvA/\zc H sk wr/\1<=g.rows.length/\g.rows.length<=1000 /\
 (l<0\/(g.slopes.length:Int)<=l->E (.ref CN) none H)/\(0<=l->l<(g.slopes.length:Int)->n<0\/((g.slopes.getD l.toNat []).length:Int)<=n->E (.ref CP) none H) /\
 (0<=l->l<(g.slopes.length:Int)->0<=n->n<((g.slopes.getD l.toNat []).length:Int)->∃ns ms,Y5 g l ns/\(∀q∈ns,0<=q.1)/\(g.slopes.getD l.toNat []).length<=100/\ms.Perm ns/\(ms.map (·.1)).Pairwise (· <= ·)/\(∀H',jn H H'->y<0\/10 ^ 40<y->E (.ref CY) none H') /\
  (0<=y->y<=10 ^ 40->∀o out H',H o=none->H' o=some (.lst out)->qP H' out (y6 ((jW ms (g.slopes.getD l.toNat []) wr g.rows (y+jc ns y-n)).drop (y-jp 0 0 ms (y+jc ns y-n)).toNat))->jn H H'->Q (.ref o) H'))
theorem yl:FnScope ["ice","lane","place","year","onward","beneath","rows","when","where","moved","lying"] ["ice","lane","place","year"] (j8 VN):=by walk_at "s"
theorem G2 {f C CN CP CY:Addr}{fd:FuncData}(nb:Nb2 mg) (c_parted:CalX P w K mg base 5 "parted" ["ice","lane","place","year"] (Xg C CN CP CY))
  (F:Fun K "way" "way" VN f fd):FnOk P w K mg base (CX1 P w) 6 f fd ["ice","lane","place","year"] (Zz C CN CP CY):=by
 refine Fun.okX F yl (λvs H Q E h=>?_) (λcdv A outer s H vs Q E hr h=>?_)
 ·obtain ⟨p,g,l,n,y,sk,wr,rfl,_⟩:=h
  rfl
 ·obtain ⟨p,g,l,n,y,sk,wr,rfl,I,hll,ek,hw,hr1,hr2,kl,kp,k⟩:=h
  refine ⟨_,(j4 (jt 4 yl.nd (jo (qo K) (zi c_parted (hr.mono ⋯) qM rfl (j0 (pv 0) (j0 (pv 1) (j0 (pv 2) (j0 (pv 3) j2))))) j7 (λ_ _=>rfl)))
   (j4 (jt 5 yl.nd (jo (qo K) (jo (jd K) (pv 4) j7 (λ_ _=>rfl)) j7 (λ_ _=>rfl)))
   (j4 (jt 6 yl.nd (jL j2))
   (j4 (Xv (qt aV rfl (jP K (pv 4)) (qv (n:=4) K rfl (jm (jb (i:=7) yl.nd rfl (aP rfl)) (jm (jb (i:=8) yl.nd rfl (aP rfl)) (jm (jb (i:=9) yl.nd rfl (aP rfl)) (jm (jb (i:=10) yl.nd rfl (aP rfl)) qw))))) (j4 (jt 5 yl.nd (jf (vo rfl) rfl nb.b_min rZ (j0 (pv 5) (j0 (pv 10) j2))))
   (j4 (jM (xu K aX aZ b7 jZ (pv 6) (j0 (jS (j0 (pv 7) (j0 (pv 8) (j0 (jq qG (pv 10) (pv 5)) (j0 (pv 5) j2))))) j2)))
   (j9 (jU (jz y8 (pv 10) j7 (jG _)) (j9 QT) jw))))))
   (j9 (jk (pv 6))))))),?_⟩
  walk_at "r"
  refine ⟨p,g,l,n,y,sk,wr,rfl,I,hll,ek,hw,hr1,hr2,kl,kp,λl0 l1 n0 n1=>?_⟩
  obtain ⟨ns,ms,hL,hp0,g100,hp,hs,ky,k⟩:=k l0 l1 n0 n1
  refine ⟨ns,ms,hL,hp0,g100,hp,hs,ky,λy0 y1 t a1 a2 out H1 ht ha1 ha2 ht1 ha11 ha21 r1 s1=>?_⟩
  have hpos:∀q∈ns,0<=q.1/\0<=q.2:=λq hq=>⟨hp0 q hq,(hL.2.2.2.2.2 q hq).1⟩
  have nd:(ns.map (·.1)).Nodup:=hL.2.2.2.1
  have e0:y+jc ns y-(y+jc ns y-n)=n:=()
  have onm:=(xD hp hs nd hpos (y+jc ns y-n) (g.slopes.getD l.toNat []).length y y0).mp (by rw [e0];exact ⟨n0,n1⟩)
  have hlo:=zq ms (g.slopes.getD l.toNat []) wr g.rows (y+jc ns y-n)
  have spl:=uB hp hs nd hpos (y+jc ns y-n) (g.slopes.getD l.toNat []).length ()
  have k:=k y0 y1
  have r2:qP H1 (out.drop (y-jp 0 0 ms (y+jc ns y-n)).toNat) ((jW ms (g.slopes.getD l.toNat []) wr g.rows (y+jc ns y-n)).drop (y-jp 0 0 ms (y+jc ns y-n)).toNat):=qP.drop _ r1
  generalize y+jc ns y-n=m at *
  generalize hkk:(y-jp 0 0 ms m).toNat=kk at *
  generalize hrw:(jW ms (g.slopes.getD l.toNat []) wr g.rows m).drop kk=rows at *
  have hrl:0<rows.length:=by rw [<- hrw,d6];omega
  have hr100:rows.length<=100:=by rw [<- hrw,d6];omega
  obtain ⟨q0,hq0⟩:∃q,rows[0]? = some q:=⟨_,aa hrl⟩
  generalize hov:out.drop kk=ov at *
  have hol:ov.length=rows.length:=aK r2
  obtain ⟨v0,hv0⟩:∃v,ov[0]? = some v:=⟨_,aa ()⟩
  obtain ⟨q0',hq0',b0,rfl,hb0⟩:=Paired.get r2 hv0
  rw [hq0] at hq0'
  cases hq0'
  have hb0:H1 b0=some (.tup [.int q0.1,.int q0.2.1,.int q0.2.2.1,.int q0.2.2.2]):=hb0
  have hw0:y6 rows=yH q0.2.2.2 rows:=by
   unfold y6
   rw [lE,md,hq0]
   rfl
  rw [hw0] at k
  walk_at "r"
  refine ⟨_,_,_,_,rfl,rfl,SqL.of ha21,qS ⋯ (v:=V.ref b0) hv0,?_⟩
  walk_at "r"
  refine ⟨aC _,λrw_ H5 hrw_ hrw5 s5=>?_⟩
  have rw0:H rw_=none:=s1.free hrw_
  walk_at "r"
  refine ⟨⟨_,SqL.of (s5 _ _ ha21)⟩,?_⟩
  refine zw (K:=K) (a:=a2) (xs:=ov) (λi σ H6=>∃(x8 x9 x10 x11:Option V) (b:Int) (X:List Q4) (out6:List V),σ=[some (.ref p),some (.int l),some (.int n),some (.int y),some (.ref a2),some (.int b),some (.ref rw_),x8,x9,x10,x11]/\H6 rw_=some (.lst out6)/\qP H6 out6 X/\X.length=i/\yH q0.2.2.2 rows=X++yH b (rows.drop i)/\Ext rw_ H1 H6) ?_ ?_ ?_ ?_
  ·exact ⟨_,_,_,_,_,[],[],rfl,hrw5,.nil,rfl,rfl,λc o hc _=>s5 _ _ hc⟩
  ·rintro i σ H6 hi ⟨x8,x9,x10,x11,b,X,out6,rfl,h6,r6,hX,eX,e6⟩
   exact SqL.of (e6 _ _ ha21 (j1 ha21 hrw_))
  ·rintro i v σ H6 hv ⟨x8,x9,x10,x11,b,X,out6,rfl,h6,r6,hX,eX,e6⟩
   obtain ⟨q,hq,bq,rfl,hbq⟩:=Paired.get r2 hv
   have hi:i<rows.length:=(List.getElem?_eq_some_iff.mp hq).1
   have hbq:H1 bq=some (.tup [.int q.1,.int q.2.1,.int q.2.2.1,.int q.2.2.2]):=hbq
   have s6:jn H1 H6:=λc o hc=>e6 c o hc (j1 hc hrw_)
   have hol6:out6.length=X.length:=aK r6
   have ed:rows.drop i=q::rows.drop (i+1):=by
    have:=(List.getElem?_eq_some_iff.mp hq).2
    rw [<- this]
    exact bQ hi
   rw [ed] at eX
   have eX:yH q0.2.2.2 rows=X++((q.1,q.2.1,q.2.2.2-min b q.2.2.2,min b q.2.2.2)::(if q.2.2.2=0 then [] else yH (min b q.2.2.2) (rows.drop (i+1)))):=eX
   walk_at "r"
   refine ⟨bq,_,rfl,SqT.of (s6 _ _ hbq),rfl,?_⟩
   refine ⟨_,_,rfl,_,_,rfl,_,_,rfl,_,_,rfl,rfl,?_⟩
   walk_at "r"
   refine ⟨_,_,rfl,?_⟩
   walk_at "r"
   rw [show (if q.2.2.2<b then q.2.2.2 else b)=min b q.2.2.2 by split <;> omega]
   refine ⟨.inl ⟨rfl,_,SqL.of h6⟩,?_⟩
   walk_at "r"
   refine ⟨by show 4<=sizeLine;decide,λtq H7 htq htq7 s7=>?_⟩
   refine ⟨_,_,_,rfl,rfl,s7 _ _ h6,jg (),?_⟩
   have tqr:tq≠rw_:=(j1 h6 htq).symm
   have e8:Ext rw_ H1 (upd H7 rw_ (.lst (out6++[.ref tq]))):=λc o hc n=>by rw [j6 n];exact s7 _ _ (e6 c o hc n)
   have r8:qP (upd H7 rw_ (.lst (out6++[.ref tq]))) (out6++[.ref tq]) (X++[(q.1,q.2.1,q.2.2.2-min b q.2.2.2,min b q.2.2.2)]):=bL (r6.keep λa xs q=>by rw [j6 (ji (s7 _ _ q) (s7 _ _ h6) (by walk_at "z"))];exact s7 _ _ q) ⟨tq,rfl,by rw [j6 tqr];exact htq7⟩
   walk_at "r"
   refine qC (λz=>?_) (λz=>?_)
   ·rw [if_pos (V.int.inj z)] at eX
    walk_at "r"
    exact k rw_ _ _ rw0 j5 (by rw [eX];exact r8) (s1.trans λc o hc=>e8 c o hc (j1 hc hrw_))
   ·rw [if_neg λe=>z (congrArg V.int e)] at eX
    walk_at "r"
    exact ⟨_,_,_,_,min b q.2.2.2,X++[(q.1,q.2.1,q.2.2.2-min b q.2.2.2,min b q.2.2.2)],_,rfl,j5,r8,by rw [ak,hX];rfl,by rw [eX,cD];rfl,e8⟩
  ·rintro σ H6 ⟨x8,x9,x10,x11,b,X,out6,rfl,h6,r6,hX,eX,e6⟩
   rw [cE ()] at eX
   have eX:yH q0.2.2.2 rows=X:=by rw [eX];exact aM _
   rw [<- eX] at r6
   walk_at "r"
   exact k rw_ out6 H6 rw0 h6 r6 (s1.trans λc o hc=>e6 c o hc (j1 hc hrw_))
theorem ScAt.frM {H H':Hp}{sd:Addr}{c:ScN}(S:ScAt H sd c) (f:FrM c.D H H'):ScAt H' sd c:=S.keep (N:=λ_=>False) (λc o h _=>f c o h) (λ_ _ _ z=>z) id S.nD id id id id (λ_ _=>id) id (λ_ _=>id)
theorem FrM.keepT {M:Addr->Prop}{H H':Hp}(f:FrM M H H'):jj H H':=λa xs h=>f.at h (by walk_at "w")
theorem FrM.put {M:Addr->Prop}{H H':Hp}{c:Addr}{o:HO}(f:FrM M H H') (n:H c=none):FrM M H (upd H' c o):=λd u hd=>by
 have:d≠c:=λe=>by rw [e,n] at hd;cases hd
 rw [j6 this]
 exact f d u hd
theorem FrM.no {M:Addr->Prop}{H H':Hp}{c:Addr}(f:FrM M H H') (n:H' c=none):H c=none:=by
 cases e:H c with
 | none=>rfl
 | some o =>
  rcases f c o e with h | ⟨_,_,_,_,h⟩
  ·rw [n] at h;cases h
  ·rw [n] at h;cases h
theorem kG {H:Hp}{sd da:Addr}{c:ScN}{g:IceG}{l y:Int}{wy:List Int}{dn:List (Int×Int)}{Q:VK}{E:XK}(S:ScAt H sd c) (LF:LaneF c g l wy da dn) (k:∀H',FrM c.D H H'->Q (.int (y+jc dn y)) H'):Jt [.ref sd,.int l,.int y] H Q E:=by
 have hdm:=ax LF.cd
 have ell:c.lds.map (λx=>V.ref x.1)=(c.lds.map (·.1)).map V.ref:=by rw [bS];rfl
 have eda:(c.lds.map (·.1))[l.toNat]? = some da:=by rw [av,LF.cd];rfl
 have l10:=LF.l10
 exact ⟨c.D,sd,c.p,c.q,c.sg,c.gl,c.ll,da,c.lds.map (·.1),l,_,dn,rfl,S.sd,(by rw [<- ell];exact S.ll),LF.l0,eda,S.ld _ hdm,LF.D,S.nD,(),LF.nd,λq hq=>by have:=LF.b q hq;omega,k⟩
theorem ScAt.gnd {H:Hp}{sd da:Addr}{c:ScN}{g:IceG}{l:Int}{wy:List Int}{dn:List (Int×Int)}(S:ScAt H sd c) (LF:LaneF c g l wy da dn):∃ga,atI c.zs l=some (V.ref ga)/\H ga=some (.lst ((ja c.rs wy).map V.int)):=by
 have hzl:c.zs.length=c.ws.length:=(aK S.gi).trans (af _)
 have hi:l.toNat<c.zs.length:=by rw [hzl];exact (List.getElem?_eq_some_iff.mp LF.way).1
 obtain ⟨gw,hgw,ga,ega,hga⟩:=Paired.get S.gi (aa hi)
 rw [av,LF.way] at hgw
 have hgw:=aR hgw
 subst hgw
 exact ⟨ga,qS LF.l0 (by rw [aa hi,ega]),hga⟩
noncomputable def zR (R:Int) (n:Nat):List Int:=(aG n).map λp:Nat=>R-(p:Int)
theorem uL (R:Int) (n:Nat):(zR R n).length=n:=by
 unfold zR
 rw [af,br]
theorem Vk {R:Int}{n p:Nat}(h:p<n):(zR R n)[p]? = some (R-(p:Int)):=by
 unfold zR
 rw [av,dI h]
 rfl
noncomputable def ZA:Sp:=λvs H Q _=>∃(sd:Addr) (c:ScN) (g:IceG) (l y:Int) (wy:List Int) (da:Addr) (dn:List (Int×Int)),vs=[.ref sd,.int l,.int y]/\ScAt H sd c/\LaneF c g l wy da dn /\
 ∀o H',H o=none->H' o=some (.lst ((zR (y+jc dn y) (ja c.rs wy).length).map V.int))->FrM c.D H H'->Q (.ref o) H'
theorem uv:FnScope ["_law_scene_here","_law_lane","_law_year_here","_law_ride_here"] ["_law_scene_here","_law_lane","_law_year_here"] (j8 zL):=by walk_at "s"
theorem Vo {f:Addr}{fd:FuncData}(nb:Nb2 mg) (c_law_ride:Cal P w K mg base 1 "_law_ride" ["_law_scene_here","_law_lane","_law_year_here"] Jt)
  (F:Fun K "_law_marks" "_law_marks" zL f fd):FnOk P w K mg base CX0 2 f fd ["_law_scene_here","_law_lane","_law_year_here"] ZA:=by
 refine F.ok uv (λvs H Q E h=>?_) (λcdv A outer s H vs Q E hr h=>?_)
 ·obtain ⟨sd,c,g,l,y,wy,da,dn,rfl,_⟩:=h
  rfl
 ·obtain ⟨sd,c,g,l,y,wy,da,dn,rfl,S,LF,k⟩:=h
  have g30:=LF.g30
  refine ⟨_,(j4 (yW (i:=3) uv.nd rfl (iS rfl) (je c_law_ride (hr.mono ⋯) rfl (j0 (pv 0) (j0 (pv 1) (j0 (pv 2) j2)))))
   (j9 (jk (jY (osc:=(j8 zL)) (ON:=["_law_scene_here","_law_lane","_law_year_here","_law_ride_here"]) (N:=["_law_place","_law_ride_here"]) (own:=1) (caps:=[3]) ⟨rfl,∅,∅,∅,rfl,∅⟩ rfl rfl rfl (qh rfl nb.b_range (j0 (jf (jh K) rfl nb.b_len aT (j0 (jo (jd K) (jJ (jR hr) (pv 0) jF (λ_ _=>rfl)) (pv 1) (λ_ _=>rfl)) j2)) j2)) (λ_ _ _ _ _=>(jb (i:=0) (show bo (["_law_place","_law_ride_here"]:List Str) by decide +kernel) rfl (aP rfl))) (λ_ _ _ _ _=>jK) (λ_ _ _ _ _=>(jq qG (pv 1) (pv 0))))))),?_⟩
  walk_at "r"
  simp only [gg,aM]
  refine kG S LF λH1 f1=>?_
  have S1:=S.frM f1
  obtain ⟨ga,ega,hga⟩:=S1.gnd LF
  walk_at "r"
  refine ⟨sd,.ref c.gl,rfl,by rw [<- xH c.p c.q c.sg c.gl c.ll];exact qU.k (k:=.inr "grounds") S1.sd,?_⟩
  walk_at "r"
  refine ⟨_,_,_,_,rfl,rfl,SqL.of S1.gl,ega,?_⟩
  walk_at "r"
  refine ⟨ga,_,rfl,.inl (SqL.of hga),?_⟩
  rw [af]
  walk_at "r"
  refine ⟨(),(),λacc hacc=>?_⟩
  refine xn (lo:=0) (n:=(((ja c.rs wy).length:Nat):Int).toNat) (acc:=acc) (λi σ H2=>∃x:Option V,σ=[x,some (.int (y+jc dn y))]/\H2 acc=some (.lst ((zR (y+jc dn y) i).map V.int))/\Ext acc H1 H2) ?_ ?_ ?_
  ·exact ⟨none,rfl,j5,Ext.put⟩
  ·rintro i σ H2 hi ⟨x,rfl,h2,e2⟩
   walk_at "r"
   refine ⟨_,h2,by rw [af,uL];exact jg (),_,rfl,?_,e2.trans Ext.put⟩
   unfold zR
   rw [j5,ck,aB,aB,eA]
   rfl
  ·rintro σ H2 ⟨x,rfl,h2,e2⟩
   rw [bE] at h2
   walk_at "r"
   exact k acc H2 (f1.no hacc) h2 (f1.trans (FrM.of_same λc o hc=>e2 c o hc (j1 hc hacc)))
theorem jD.same {H H':Hp}{vs:List V}{ts:List T3}(r:jD H vs ts) (s:jn H H'):jD H' vs ts:=r.imp λ_ _ q=>s _ _ q
theorem jD.keep {H H':Hp}{vs:List V}{ts:List T3}(r:jD H vs ts) (s:jj H H'):jD H' vs ts:=r.imp λ_ _ q=>s _ _ q
noncomputable def yj (t:T3):List Key:=[.inl t.1,.inl t.2.1,.inl t.2.2]
noncomputable def jx (H:Hp) (ps:List (Int×Addr)) (cs:List (Int×List T3)):Prop:=cG (λ(z:Int×Addr) (q:Int×List T3)=>z.1=q.1/\∃out,H z.2=some (.lst out)/\jD H out q.2) ps cs
noncomputable def qy (G:List Key->List V->Prop) (H:Hp) (ea:Addr) (n:Nat):Prop:=∃kvs:List (List Key×V),H ea=some (.dT kvs)/\kvs.length<=n/\∀k v,jV kvs k=some v->∃t xs,v=V.ref t/\H t=some (.tup xs)/\G k xs
theorem qy.mono {G:List Key->List V->Prop}{H:Hp}{ea:Addr}{n m:Nat}(h:qy G H ea n) (l:n<=m):qy G H ea m:=by
 obtain ⟨kvs,h1,h2,h3⟩:=h
 exact ⟨kvs,h1,aF h2 l,h3⟩
theorem qy.keep {G:List Key->List V->Prop}{H H':Hp}{ea:Addr}{n:Nat}(h:qy G H ea n) (t:jj H H') (d:∀kvs,H ea=some (.dT kvs)->H' ea=some (.dT kvs)):qy G H' ea n:=by
 obtain ⟨kvs,h1,h2,h3⟩:=h
 refine ⟨kvs,d _ h1,h2,λk v hv=>?_⟩
 obtain ⟨t',xs,e,h4,g⟩:=h3 k v hv
 exact ⟨t',xs,e,t _ _ h4,g⟩
theorem qy.put {G:List Key->List V->Prop}{H:Hp}{ea t:Addr}{n:Nat}{kvs:List (List Key×V)}{k:List Key}{xs:List V}(h1:H ea=some (.dT kvs)) (h2:kvs.length<=n) (h3:∀k v,jV kvs k=some v->∃t xs,v=V.ref t/\H t=some (.tup xs)/\G k xs) (ht:H t=some (.tup xs)) (g:G k xs):qy G (upd H ea (.dT (qB kvs k (.ref t)))) ea (n+1):=by
 have nT:∀{a:Addr} {ys:List V},H a=some (.tup ys)->(upd H ea (.dT (qB kvs k (.ref t)))) a=some (.tup ys):=λh=>by rw [j6 (ji h h1 (by walk_at "z"))];exact h
 refine ⟨_,j5,aF (zJ _ _ _) (),λk' v hv=>?_⟩
 rw [Vm] at hv
 by_cases e:k'=k
 ·rw [if_pos e] at hv
  cases hv
  subst e
  exact ⟨t,xs,rfl,nT ht,g⟩
 ·rw [if_neg e] at hv
  obtain ⟨t',ys,e',h4,g'⟩:=h3 k' v hv
  exact ⟨t',ys,e',nT h4,g'⟩
theorem jx.keep {H H':Hp}{ps:List (Int×Addr)}{cs:List (Int×List T3)}(h:jx H ps cs) (t:jj H H') (l:∀z∈ps,∀out,H z.2=some (.lst out)->H' z.2=some (.lst out)):jx H' ps cs:=pmM h λz hz q ⟨e,out,h1,h2⟩=>⟨e,out,l z hz out h1,jD.keep h2 t⟩
noncomputable def qx (cs:List (Int×List T3)) (m:Int):List T3:=((cs.find? λq=>decide (q.1=m)).map (·.2)).getD []
noncomputable def xF (hs:List T3) (y p w:Int):List T3:=if 0<w then hs++(aG w.toNat).map (λk:Nat=>(y,p,(k:Int))) else hs.take (hs.length-(- w).toNat)
theorem jx.find {H:Hp}:∀{ps:List (Int×Addr)}{cs:List (Int×List T3)},jx H ps cs->∀m:Int,(jV (ps.map kvA) (.inl m)=none/\qx cs m=[])\/∃a out,jV (ps.map kvA) (.inl m)=some (.ref a)/\H a=some (.lst out)/\jD H out (qx cs m)/\∃q∈cs,q.2=qx cs m
 | _,_,.nil,m=>.inl ⟨rfl,rfl⟩
 | _,_,.cons (a:=z) (b:=q) ⟨e,out,h1,h2⟩ r,m=>by
  by_cases w:z.1=m
  ·refine .inr ⟨z.2,out,?_,h1,?_⟩
   ·rw [aN]
    show jV (((.inl z.1:Key),V.ref z.2)::_) (.inl m:Key)=_
    rw [w]
    exact xh
   ·have e2:∀l,qx (q::l) m=q.2:=λl=>by
     unfold qx
     rw [fW (by rw [decide_eq_true (e ▸ w)])]
     rfl
    rw [e2]
    exact ⟨h2,q,aI ..,rfl⟩
  ·have e2:∀l,qx (q::l) m=qx l m:=λl=>by
    unfold qx
    rw [fX (by rw [decide_eq_false (λx=>w (e.trans x))];exact au)]
   have e3:∀l:List (Int×Addr),jV ((z::l).map kvA) (.inl m)=jV (l.map kvA) (.inl m):=λl=>by
    rw [aN]
    exact ju λx=>w (dR x)
   rw [e2,e3]
   rcases jx.find r m with h | ⟨a,o,g1,g2,g3,q',hq',g4⟩
   ·exact .inl h
   ·exact .inr ⟨a,o,g1,g2,g3,q',aE _ hq',g4⟩
theorem jx.keep2 {H H':Hp}{ea pa:Addr}{ps:List (Int×Addr)}{cs:List (Int×List T3)}(h:jx H ps cs) (k:∀a u,H a=some u->a≠ea->a≠pa->H' a=some u) (e:∀xs,H ea≠some (.lst xs)/\H ea≠some (.tup xs)) (p:∀xs,H pa≠some (.lst xs)/\H pa≠some (.tup xs)):jx H' ps cs :=
 h.keep (λa xs ha=>k a _ ha (λz=>(e xs).2 (z ▸ ha)) (λz=>(p xs).2 (z ▸ ha))) λz _ out ho=>k _ _ ho (λw=>(e out).1 (w ▸ ho)) (λw=>(p out).1 (w ▸ ho))
theorem jx.none {H:Hp}{m:Int}:∀{ps:List (Int×Addr)}{cs:List (Int×List T3)},jx H ps cs->(∀q∈cs,q.1≠m)->jV (ps.map kvA) (.inl m)=none
 | _,_,.nil,_=>rfl
 | _,_,.cons (a:=z) (b:=q) ⟨e,_⟩ r,n=>by
  rw [aN]
  show jV (((.inl z.1:Key),V.ref z.2)::_) (.inl m:Key)=_
  rw [ju λx=>n q (aI ..) (e.symm.trans (dR x))]
  exact jx.none r λq' h=>n q' (aE _ h)
theorem jx.snoc {H:Hp}:∀{ps:List (Int×Addr)}{cs:List (Int×List T3)}{m:Int}{a:Addr}{out:List V}{hs:List T3},jx H ps cs->H a=some (.lst out)->jD H out hs->jx H (ps++[(m,a)]) (cs++[(m,hs)])
 | _,_,_,_,out,_,.nil,h1,h2=>.cons ⟨rfl,out,h1,h2⟩ .nil
 | _,_,_,_,_,_,.cons h r,h1,h2=>.cons h (jx.snoc r h1 h2)
theorem wW {H:Hp}:∀{vs:List V}{ts:List T3}(n:Nat),jD H vs ts->jD H (vs.take n) (ts.take n)
 | _,_,0,_=>.nil
 | _,_,_+1,.nil=>.nil
 | _,_,n+1,.cons h r=>.cons h (wW n r)
theorem Yp (hs:List T3) (y p w:Int) {cnt:Nat}(h1:0<w->cnt=0) (h2:¬0<w->cnt=min hs.length (- w).toNat):(hs++(aG w.toNat).map (λk:Nat=>(y,p,(k:Int)))).take ((hs++(aG w.toNat).map (λk:Nat=>(y,p,(k:Int)))).length-cnt)=xF hs y p w:=by
 unfold xF
 by_cases z:0<w
 ·rw [if_pos z,h1 z,oU,aW]
 ·rw [if_neg z,show w.toNat=0 by omega,mq,fb,aM,h2 z]
  congr 1
  omega
theorem WO {t:T3}(g:good t=true) (h:Int) : -9<=chg t h:=by
 have g:0<=t.1/\t.1<=100/\0<=t.2.1/\t.2.1<=9/\0<=t.2.2/\t.2.2<=9:=of_decide_eq_true g
 unfold chg
 split <;> omega
noncomputable def QU:Sp:=λvs H Q _=>∃(sd:Addr) (c:ScN) (g:IceG) (l y:Int) (wy:List Int) (da:Addr) (dn:List (Int×Int)) (wr:List (Int×T3)) (pa ea:Addr) (ps:List (Int×Addr)) (cs:List (Int×List T3)) (n:Nat) (G:List Key->List V->Prop),vs=[.ref sd,.int l,.ref pa,.int y,.ref ea]/\ScAt H sd c/\LaneF c g l wy da dn/\zc H c.sk wr/\1<=c.ts.length/\c.ts.length<=1000/\(∀z,good (zh wr c.ts z)=true)/\H pa=some (.dK (ps.map kvA))/\pa≠sd/\(ps.map (·.1)).Nodup/\ps.length<=100/\jx H ps cs/\(∀q∈cs,q.2.length<=800)/\qy G H ea n/\n<=16000000 /\
 (∀q∈cs,¬q.1∈zR (y+jc dn y) (ja c.rs wy).length->∀h∈q.2,G (yj h) [.str "off",.int y]) /\
 (∀p:Nat,p<(ja c.rs wy).length->∀k:Nat,k<(- chg (zh wr c.ts y) ((ja c.rs wy).getD p 0)).toNat->k<(qx cs (y+jc dn y-(p:Int))).length->∀h,(qx cs (y+jc dn y-(p:Int)))[(qx cs (y+jc dn y-(p:Int))).length-1-k]? = some h->G (yj h) [.str "melt",.int y,.int (p:Int),.int (k:Int)]) /\
 ∀(la:Addr) (ps2:List (Int×Addr)) (H':Hp),H la=none->H' la=some (.dK (ps2.map kvA))->jx H' ps2 ((aG (ja c.rs wy).length).map λp:Nat=>(y+jc dn y-(p:Int),xF (qx cs (y+jc dn y-(p:Int))) y (p:Int) (chg (zh wr c.ts y) ((ja c.rs wy).getD p 0))))->(∀z∈ps2,H z.2=none)->qy G H' ea (n+120000)->Fr3 (λa=>a=ea) (λa=>c.D a\/a=pa) H H'->Q (.ref la) H'
theorem jH:FnScope ["_law_scene_here","_law_lane","_law_piles","_law_year_here","_law_ends","_law_marks_here","_law_later","_law_gone","_law_hand","_law_place","_law_one","_law_hands","_law_many","_law_layer","_law_turn"] ["_law_scene_here","_law_lane","_law_piles","_law_year_here","_law_ends"] (j8 zQ):=by walk_at "s"
theorem XT {f:Addr}{fd:FuncData}(nb:Nb2 mg) (c_law_marks:Cal P w K mg base 2 "_law_marks" ["_law_scene_here","_law_lane","_law_year_here"] ZA) (c_law_wish:Cal P w K mg base 1 "_law_wish" ["_law_row_here","_law_height"] VA) (c_law_row:Cal P w K mg base 1 "_law_row" ["_law_scene_here","_law_year_here"] VB)
  (F:Fun K "_law_year_of" "_law_year_of" zQ f fd):FnOk P w K mg base CX0 3 f fd ["_law_scene_here","_law_lane","_law_piles","_law_year_here","_law_ends"] QU:=by
 refine F.ok jH (λvs H Q E h=>?_) (λcdv A outer s H vs Q E hr h=>?_)
 ·obtain ⟨sd,c,g,l,y,wy,da,dn,wr,pa,ea,ps,cs,n,G,rfl,_⟩:=h
  rfl
 ·obtain ⟨sd,c,g,l,y,wy,da,dn,wr,pa,ea,ps,cs,n,G,rfl,S,LF,hw,t1,t2,sg,hpa,pasd,nd,p100,P0,c800,E0',hn7,hoff,hmelt,k⟩:=h
  have g30:=LF.g30
  have gAt:=λ{H':Hp} (S':ScAt H' sd c)=>S'.gnd LF
  have nds:∀{H':Hp} {n':Nat} {xs:List V},qy G H' ea n'->H' ea≠some (.lst xs)/\H' ea≠some (.tup xs):=λh=>by
   obtain ⟨kvs,h1,_⟩:=h
   rw [h1]
   exact ⟨(by walk_at "z"),(by walk_at "z")⟩
  have npd:∀{H':Hp} {xs:List V},Rd H' pa (.dK (ps.map kvA))->H' pa≠some (.lst xs)/\H' pa≠some (.tup xs):=λh=>by
   rcases h with h | ⟨o,h⟩ <;> (rw [h];exact ⟨(by walk_at "z"),(by walk_at "z")⟩)
  have eaN:∀{a:Addr} {u:HO},H a=some u->(∀kvs,u≠.dT kvs)->¬a=ea:=λh d w=>by
   obtain ⟨kvs,h1,_⟩:=E0'
   rw [w,h1] at h
   exact d kvs (aR h).symm
  generalize hgd:ja c.rs wy=gd at *
  refine ⟨_,(j4 (jt 5 jH.nd (je c_law_marks (hr.mono ⋯) rfl (j0 (pv 0) (j0 (pv 1) (j0 (pv 3) j2)))))
   (j4 (jt 6 jH.nd y7)
   (j4 (qt aV rfl (wC (pv 2)) (jb (i:=7) jH.nd rfl (aP rfl)) (j9 (jU (jz (xN K) (pv 7) (pv 5) (by with_unfolding_all rfl)) (j9 (qt aV rfl (jP K (jJ (jR hr) (pv 2) (pv 7) (λ_ _=>rfl))) (jb (i:=8) jH.nd rfl (aP rfl)) (j9 (zf (jR hr) (pv 4) (pv 8) (jS (j0 jF (j0 (pv 3) j2))) rfl)))) jw)))
   (j4 (qt aV rfl (JM K rfl nb.b_enumerate (j0 (pv 5) j2)) (qv (n:=2) K rfl (jm (jb (i:=9) jH.nd rfl (aP rfl)) (jm (jb (i:=10) jH.nd rfl (aP rfl)) qw))) (j4 (jt 11 jH.nd (qI (qJ K) rfl nb.b_list bT (j0 (k8 (jR hr) (pv 2) (pv 10) (jL j2) ⟨rfl,rfl,rfl,rfl⟩) j2)))
   (j4 (jt 12 jH.nd (je c_law_wish (hr.mono ⋯) rfl (j0 (je c_law_row (hr.mono ⋯) rfl (j0 (pv 0) (j0 (pv 3) j2))) (j0 (jo (jd K) (jo (jd K) (jJ (jR hr) (pv 0) jF (λ_ _=>rfl)) (pv 1) (λ_ _=>rfl)) (pv 9) (λ_ _=>rfl)) j2))))
   (j4 (qt aV rfl (qh rfl nb.b_range (j0 (jf (yh rfl) rfl nb.b_max oQ (j0 j7 (j0 (pv 12) j2))) j2)) (jb (i:=13) jH.nd rfl (aP rfl)) (j9 (jM (xu K aX aZ b7 jZ (pv 11) (j0 (jS (j0 (pv 3) (j0 (pv 9) (j0 (pv 13) j2)))) j2)))))
   (j4 (qt aV rfl (qh rfl nb.b_range (j0 (jf (vo rfl) rfl nb.b_min rZ (j0 (jf (jh K) rfl nb.b_len aT (j0 (pv 11) j2)) (j0 (jf (yh rfl) rfl nb.b_max oQ (j0 j7 (j0 (jq qG j7 (pv 12)) j2))) j2))) j2)) (jb (i:=14) jH.nd rfl (aP rfl)) (j9 (zf (jR hr) (pv 4) (UR K aX PySem.F.slot_list_pop PySem.F.type_list_pop Go (pv 11)) (jS (j0 jF (j0 (pv 3) (j0 (pv 9) (j0 (pv 14) j2))))) rfl)))
   (j9 (zf (jR hr) (pv 6) (pv 10) (pv 11) rfl)))))))
   (j9 (jk (pv 6))))))),?_⟩
  walk_at "r"
  refine ⟨sd,c,g,l,y,wy,da,dn,rfl,S,LF,λmk H1 hmk hmk1 f1=>?_⟩
  rw [hgd] at hmk1
  have E1:qy G H1 ea n:=E0'.keep (FrM.keepT f1) λkvs h=>f1.at h (by walk_at "w")
  have hpa1:=f1.rd (.inl hpa)
  have P1:jx H1 ps cs:=P0.keep (FrM.keepT f1) λz _ out h=>f1.at h (by walk_at "w")
  walk_at "r"
  intro la hla
  have hlaH:H la=none:=f1.no hla
  have s2:jn H1 (upd H1 la (.dK [])):=jn.new hla
  have hla2:(upd H1 la (.dK [])) la=some (.dK []):=j5
  have hmk2:=s2 _ _ hmk1
  have E2:qy G (upd H1 la (.dK [])) ea n:=E1.keep (jj.same s2) λkvs h=>s2 _ _ h
  have hpa2:Rd (upd H1 la (.dK [])) pa (.dK (ps.map kvA)):=hpa1.imp (λh=>s2 _ _ h) λ⟨o,h⟩=>⟨o,s2 _ _ h⟩
  have P2:jx (upd H1 la (.dK [])) ps cs:=P1.keep (jj.same s2) λz _ out h=>s2 _ _ h
  have lapa:la≠pa:=λz=>by
   rcases hpa1 with h | ⟨o,h⟩ <;> (rw [<- z,hla] at h;cases h)
  have laea:la≠ea:=λz=>by
   obtain ⟨kvs,h,_⟩:=E1
   rw [<- z,hla] at h
   cases h
  have f02:FrM c.D H (upd H1 la (.dK [])):=f1.put hlaH
  clear s2 E1 P1 hpa1 hmk1
  generalize upd H1 la (.dK [])=H2 at *
  generalize hR:y+jc dn y=R at *
  walk_at "r"
  refine uQ (kvs:=ps.map kvA) hpa2 (λo i σ H3=>∃x7 x8:Option V,σ=[some (.ref sd),some (.int l),some (.ref pa),some (.int y),some (.ref ea),some (.ref mk),some (.ref la),x7,x8,none,none,none,none,none,none]/\H3 pa=some (.frz o (.dK (ps.map kvA)))/\qy G H3 ea (n+900*i)/\∀a u,H2 a=some u->a≠ea->a≠pa->H3 a=some u) ?_ ?_ ?_ ?_
  ·intro o H3 f3
   exact ⟨_,_,rfl,f3.1,E2.keep (λa xs h=>f3.at h λz=>(npd hpa2).2 (z ▸ h)) (λkvs h=>f3.at h λz=>by rcases hpa2 with q | ⟨o,q⟩ <;> (rw [<- z,h] at q;cases q)),λa u h n1 n2=>f3.at h n2⟩
  ·rintro o i σ H3 hi ⟨x7,x8,rfl,hpa3,E3,k3⟩
   exact hpa3
  ·rintro o i q σ H3 hq ⟨x7,x8,rfl,hpa3,E3,k3⟩
   rw [av] at hq
   obtain ⟨z,hz,rfl⟩:=Option.map_eq_some_iff.mp hq
   have hi:i<ps.length:=(List.getElem?_eq_some_iff.mp hz).1
   obtain ⟨q,hqc,eq,out,hout,hrows⟩:=Paired.get P2 hz
   have hq800:=c800 q (ax hqc)
   have hol:out.length=q.2.length:=aK hrows
   have hmk3:=k3 _ _ hmk2 (λw=>(nds E2).1 (w ▸ hmk2)) (λw=>(npd hpa2).1 (w ▸ hmk2))
   show uh 7 (V.int z.1) _ _ _
   walk_at "r"
   refine ⟨mk,_,rfl,.inl (SqL.of hmk3),rfl,ya _,?_⟩
   walk_at "r"
   rw [yS]
   refine y3 (λhin=>?_) (λhin=>?_)
   ·have hof:=hoff q (ax hqc) (by rw [<- eq];exact hin)
    walk_at "r"
    refine ⟨pa,.ref z.2,rfl,by rw [<- vj nd (ax hz)];exact .inl ⟨_,.inl z.1,.inr ⟨o,hpa3⟩,rfl,rfl⟩,?_⟩
    have zea:z.2≠ea:=λw=>(nds E2).1 (w ▸ hout)
    have zpa:z.2≠pa:=λw=>(npd hpa2).1 (w ▸ hout)
    refine ⟨z.2,rfl,⟨_,SqL.of (k3 _ _ hout zea zpa)⟩,?_⟩
    refine zw (K:=K) (a:=z.2) (xs:=out) (λj σ H4=>∃x8:Option V,σ=[some (.ref sd),some (.int l),some (.ref pa),some (.int y),some (.ref ea),some (.ref mk),some (.ref la),some (.int z.1),x8,none,none,none,none,none,none]/\H4 pa=some (.frz o (.dK (ps.map kvA)))/\qy G H4 ea (n+900*i+j)/\∀a u,H2 a=some u->a≠ea->a≠pa->H4 a=some u) ?_ ?_ ?_ ?_
    ·exact ⟨_,rfl,hpa3,E3,k3⟩
    ·rintro j σ H4 hj ⟨x8,rfl,hpa4,E4,k4⟩
     exact SqL.of (k4 _ _ hout zea zpa)
    ·rintro j v σ H4 hv ⟨x8,rfl,hpa4,E4,k4⟩
     obtain ⟨h,hh,b,rfl,hb⟩:=Paired.get hrows hv
     have hj:j<out.length:=(List.getElem?_eq_some_iff.mp hv).1
     have hb4:=k4 _ _ hb (λw=>(nds E2).2 (w ▸ hb)) (λw=>(npd hpa2).2 (w ▸ hb))
     walk_at "r"
     refine ⟨by show 2<=sizeLine;decide,λt H5 ht ht5 s5=>?_⟩
     obtain ⟨kvs,e1,e2,e3⟩:=E4.keep (jj.same s5) λkvs h=>s5 _ _ h
     walk_at "r"
     refine ⟨ea,_,rfl,vF.t (k:=yj h) e1 (s5 _ _ hb4) (by rw [bA];omega),?_⟩
     refine ⟨_,rfl,?_,qy.put e1 e2 e3 ht5 (hof h (ax hh)),λa u ha n1 n2=>by rw [j6 n1];exact s5 _ _ (k4 a u ha n1 n2)⟩
     rw [j6 (ji (s5 _ _ hpa4) e1 (by walk_at "z"))]
     exact s5 _ _ hpa4
    ·rintro σ H4 ⟨x8,rfl,hpa4,E4,k4⟩
     exact ⟨_,_,rfl,hpa4,E4.mono (),k4⟩
   ·exact ⟨_,_,rfl,hpa3,E3.mono (),k3⟩
  rintro o σ H3 ⟨x7,x8,rfl,hpa3,E3,k3⟩
  rw [af] at E3
  have hla3:=k3 _ _ hla2 laea lapa
  have hmk3:=k3 _ _ hmk2 (λw=>(nds E2).1 (w ▸ hmk2)) (λw=>(npd hpa2).1 (w ▸ hmk2))
  have P3:=P2.keep2 k3 (λxs=>nds E2) (λxs=>npd hpa2)
  have E3:=E3.mono (show n+900*ps.length<=n+90000 by omega)
  have f03:Fr3 (λa=>a=ea) (λa=>c.D a\/a=pa) H H3:=λa u ha na=>by
   by_cases w:a=pa
   ·subst w
    rw [hpa] at ha
    cases ha
    exact .inr ⟨.inr rfl,o,_,rfl,hpa3⟩
   ·rcases f02 a u ha with h | ⟨m,ob,kvs,eo,h⟩
    ·exact .inl (k3 a u h na w)
    ·exact .inr ⟨.inl m,ob,kvs,eo,k3 a _ h na w⟩
  have mkea:mk≠ea:=λw=>(nds E3).1 (w ▸ hmk3)
  have mkla:mk≠la:=ji hmk3 hla3 (by walk_at "z")
  have pala:pa≠la:=lapa.symm
  have paea:pa≠ea:=by
   obtain ⟨kvs,h1,_⟩:=E3
   exact ji hpa3 h1 (by walk_at "z")
  have ndl:∀xs,H3 la≠some (.lst xs)/\H3 la≠some (.tup xs):=λxs=>by
   rw [hla3]
   exact ⟨(by walk_at "z"),(by walk_at "z")⟩
  clear E2 P2 hmk2 hla2 hpa2 k3 f02 f1 hla
  walk_at "r"
  refine ⟨⟨_,SqL.of hmk3⟩,?_⟩
  refine Qa (K:=K) (a:=mk) (xs:=(zR R gd.length).map V.int) (λp σ H4=>∃(x9 x10 x11 x12 x13 x14:Option V) (ps2:List (Int×Addr)),σ=[some (.ref sd),some (.int l),some (.ref pa),some (.int y),some (.ref ea),some (.ref mk),some (.ref la),x7,x8,x9,x10,x11,x12,x13,x14]/\H4 la=some (.dK (ps2.map kvA))/\ps2.length=p/\jx H4 ps2 ((aG p).map λp:Nat=>(R-(p:Int),xF (qx cs (R-(p:Int))) y (p:Int) (chg (zh wr c.ts y) (gd.getD p 0))))/\(∀z∈ps2,H z.2=none)/\qy G H4 ea (n+90000+1000*p)/\∀a u,H3 a=some u->a≠ea->a≠la->H4 a=some u) ?_ ?_ ?_ ?_
  ·exact ⟨_,_,_,_,_,_,[],rfl,hla3,rfl,.nil,(λz h=>nomatch h),E3,λa u h _ _=>h⟩
  ·rintro p σ H4 hp' ⟨x9,x10,x11,x12,x13,x14,ps2,rfl,hla4,hl4,P4,n4,E4,k4⟩
   exact SqL.of (k4 _ _ hmk3 mkea mkla)
  ·rintro p v σ H4 t hv' ⟨x9,x10,x11,x12,x13,x14,ps2,rfl,hla4,hl4,P4,n4,E4,k4⟩ ht
   obtain ⟨one,rfl,hone⟩:=uN hv'
   have hpn':p<gd.length:=by have:=(List.getElem?_eq_some_iff.mp hone).1;rw [uL] at this;exact this
   rw [Vk hpn'] at hone
   have hone:=aR hone
   subst hone
   have sT:jn H4 (upd H4 t (.tup [.int (p:Int),.int (R-(p:Int))])):=jn.new ht
   have hla5:=sT _ _ hla4
   have P5:=P4.keep (jj.same sT) λz _ out h=>sT _ _ h
   have E5:=E4.keep (jj.same sT) λkvs h=>sT _ _ h
   have k5:∀a u,H3 a=some u->a≠ea->a≠la->(upd H4 t (.tup [.int (p:Int),.int (R-(p:Int))])) a=some u:=λa u h n1 n2=>sT _ _ (k4 a u h n1 n2)
   walk_at "r"
   refine ⟨t,_,rfl,SqT.of j5,rfl,?_⟩
   refine ⟨_,_,rfl,_,_,rfl,rfl,?_⟩
   walk_at "r"
   clear hla4 P4 E4 k4 ht sT
   generalize upd H4 t (.tup [.int (p:Int),.int (R-(p:Int))])=H5 at *
   have hpa5:=k5 _ _ hpa3 paea pala
   refine ⟨.inl ⟨_,.inr ⟨o,hpa5⟩⟩,?_⟩
   walk_at "r"
   refine ⟨aC _,λez H6 hez hez6 s6=>?_⟩
   walk_at "r"
   refine ⟨_,.inl ⟨_,.inl (R-(p:Int)),.inr ⟨o,s6 _ _ hpa5⟩,rfl,rfl⟩,?_⟩
   have P3':jx H6 ps cs:=P3.keep2 (ea:=ea) (pa:=la) (λa u h n1 n2=>s6 _ _ (k5 a u h n1 n2)) (λxs=>nds E3) ndl
   obtain ⟨ha,out,ev,hha,hro,ho8⟩:∃(ha:Addr) (out:List V),((jV (ps.map kvA) (.inl (R-(p:Int)))).getD (V.ref ez)) = .ref ha/\H6 ha=some (.lst out)/\jD H6 out (qx cs (R-(p:Int)))/\(qx cs (R-(p:Int))).length<=800:=by
    rcases jx.find P3' (R-(p:Int)) with ⟨e1,e2⟩ | ⟨a,out,e1,h1,h2,q,hq,eq⟩
    ·exact ⟨ez,[],by rw [e1];rfl,hez6,by rw [e2];exact .nil,by rw [e2];exact aC _⟩
    ·exact ⟨a,out,by rw [e1];rfl,h1,h2,by rw [<- eq];exact c800 q hq⟩
   rw [ev]
   walk_at "r"
   refine ⟨ha,out,rfl,.inl (SqL.of hha),λhd H7 hhd hhd7 s7=>?_⟩
   have s57:=s6.trans s7
   have hla7:=s57 _ _ hla5
   have P7:=P5.keep (jj.same s57) λz _ out h=>s57 _ _ h
   have E7:=E5.keep (jj.same s57) λkvs h=>s57 _ _ h
   have k7:∀a u,H3 a=some u->a≠ea->a≠la->H7 a=some u:=λa u h n1 n2=>s57 _ _ (k5 a u h n1 n2)
   have r7:=jD.same hro s7
   have f07:Fr3 (λa=>a=ea) (λa=>c.D a\/a=pa) H H7:=λa u ha na=>by
    have w:a≠la:=j1 ha hlaH
    rcases f03 a u ha na with h | ⟨m,ob,kvs,eo,h⟩
    ·exact .inl (k7 a u h na w)
    ·exact .inr ⟨m,ob,kvs,eo,k7 a _ h na w⟩
   have S7:=S.keep f07 (λa xs h=>eaN h (by walk_at "w")) (eaN S.sd (by walk_at "w")) (λz=>z.elim S.nD λw=>pasd w.symm) (eaN S.p (by walk_at "w")) (eaN S.q (by walk_at "w")) (eaN S.gl (by walk_at "w")) (eaN S.ll (by walk_at "w")) (λa ha=>by
    obtain ⟨i,hi⟩:=List.mem_iff_getElem?.mp ha
    obtain ⟨w,_,ga,e,hga⟩:=Paired.get S.gi hi
    cases e
    exact eaN hga (by walk_at "w")) (by rcases S.sg with h | ⟨ob,h⟩ <;> exact eaN h (by walk_at "w")) (λx hx=>by rcases S.ld x hx with h | ⟨ob,h⟩ <;> exact eaN h (by walk_at "w"))
   have hw7:zc H7 c.sk wr:=hw.keep λa xs h=>f07.at h (eaN h (by walk_at "w")) (by walk_at "w")
   obtain ⟨ga,ega,hga⟩:=gAt S7
   walk_at "r"
   refine ⟨sd,c,y,wr,rfl,S7,hw7,t1,t2,λtr htr=>?_⟩
   walk_at "r"
   refine ⟨sd,.ref c.gl,rfl,by rw [<- xH c.p c.q c.sg c.gl c.ll];exact qU.k (k:=.inr "grounds") S7.sd,?_⟩
   walk_at "r"
   refine ⟨_,_,_,_,rfl,rfl,SqL.of S7.gl,ega,?_⟩
   walk_at "r"
   refine ⟨_,_,_,_,rfl,rfl,SqL.of hga,qS (v:=V.int (gd.getD p 0)) () (by rw [bE,av,ao,aa hpn'];rfl),?_⟩
   walk_at "r"
   refine ⟨tr,_,_,rfl,htr,?_⟩
   walk_at "r"
   have hmp:=hmelt p hpn'
   have hb1:=VZ (sg y) (gd.getD p 0)
   have hb2:=WO (sg y) (gd.getD p 0)
   clear S7 hw7 htr hga ega hmelt hoff
   generalize hwsh:chg (zh wr c.ts y) (gd.getD p 0)=wsh at *
   generalize hold:qx cs (R-(p:Int))=hs at *
   refine ⟨_,_,rfl,?_⟩
   walk_at "r"
   have hmx:((if wsh > 0 then wsh else 0).toNat)=wsh.toNat:=by split <;> omega
   refine ⟨by split <;> omega,by split <;> omega,?_⟩
   rw [hmx]
   refine qR (λj σ H8=>∃(x13:Option V) (o8:List V),σ=[some (.ref sd),some (.int l),some (.ref pa),some (.int y),some (.ref ea),some (.ref mk),some (.ref la),x7,x8,some (.int (p:Int)),some (.int (R-(p:Int))),some (.ref hd),some (.int wsh),x13,x14]/\H8 hd=some (.lst o8)/\jD H8 o8 (hs++(aG j).map (λk:Nat=>(y,(p:Int),(k:Int))))/\Ext hd H7 H8) ?_ ?_ ?_
   ·exact ⟨_,out,rfl,hhd7,by rw [mq,fb,aM];exact r7,λc o h _=>h⟩
   ·rintro j σ H8 hj ⟨x13',o8,rfl,h8,r8,e8⟩
    have ol:=r8.length
    rw [ak,af,br] at ol
    walk_at "r"
    refine ⟨.inl ⟨rfl,_,SqL.of h8⟩,?_⟩
    walk_at "r"
    refine ⟨by show 3<=sizeLine;decide,λq H9 hq hq9 s9=>?_⟩
    rw [eA] at hq9
    walk_at "r"
    refine ⟨hd,o8,_,rfl,rfl,s9 _ _ h8,jg (),?_⟩
    refine ⟨_,o8++[.ref q],rfl,j5,?_,λc u hc nc=>by rw [j6 nc];exact s9 _ _ (e8 c u hc nc)⟩
    rw [ck,aB,<- cD]
    exact bL (jD.keep (jD.same r8 s9) λa xs z=>by rw [j6 (ji z (s9 _ _ h8) (by walk_at "z"))];exact z) ⟨q,rfl,by rw [j6 (j1 h8 hq).symm];exact hq9⟩
   rintro σ H8 ⟨x13',o8,rfl,h8,r8,e8⟩
   have ol:=r8.length
   have hl2:(hs++(aG wsh.toNat).map (λk:Nat=>(y,(p:Int),(k:Int)))).length=hs.length+wsh.toNat:=by rw [ak,af,br]
   rw [hl2] at ol
   have E8:qy G H8 ea (n+90000+1000*p):=E7.keep (λa xs h=>e8 _ _ h (ji h hhd7 (by walk_at "z"))) λkvs h=>e8 _ _ h (ji h hhd7 (by walk_at "z"))
   walk_at "r"
   refine ⟨_,_,rfl,.inl (SqL.of h8),?_⟩
   walk_at "r"
   refine ⟨_,_,rfl,?_⟩
   walk_at "r"
   refine ⟨_,_,rfl,?_⟩
   walk_at "r"
   have hcn:∃cn:Int,(if (if 0-wsh > 0 then 0-wsh else 0)<(o8.length:Int) then (if 0-wsh > 0 then 0-wsh else 0) else (o8.length:Int))=cn/\0<=cn/\cn<=(o8.length:Int)/\(0<wsh->cn.toNat=0)/\(¬0<wsh->cn.toNat=min hs.length (- wsh).toNat):=by
    refine ⟨_,rfl,?_⟩
    by_cases z:0-wsh > 0
    ·rw [if_pos z]
     split <;> (refine ⟨?_,?_,?_,?_⟩ <;> omega)
    ·rw [if_neg z]
     split <;> (refine ⟨?_,?_,?_,?_⟩ <;> omega)
   obtain ⟨cn,ecn,cn0,cnl,cn1,cn2⟩:=hcn
   rw [ecn]
   refine ⟨(),(),?_⟩
   refine qR (λj σ H10=>∃x14':Option V,σ=[some (.ref sd),some (.int l),some (.ref pa),some (.int y),some (.ref ea),some (.ref mk),some (.ref la),x7,x8,some (.int (p:Int)),some (.int (R-(p:Int))),some (.ref hd),some (.int wsh),x13',x14']/\H10 hd=some (.lst (o8.take (o8.length-j)))/\qy G H10 ea (n+90000+1000*p+j)/\∀a u,H8 a=some u->a≠hd->a≠ea->H10 a=some u) ?_ ?_ ?_
   ·exact ⟨_,rfl,by rw [oU,aW];exact h8,E8,λa u h _ _=>h⟩
   ·rintro j σ H10 hj ⟨x14',rfl,h10,E10,k10⟩
    have hjl:j<o8.length:=()
    have hng:wsh<0:=()
    have hw0:wsh.toNat=0:=()
    rw [hw0] at ol
    rw [hw0,mq,fb,aM] at r8
    obtain ⟨v,hv⟩:∃v,o8[o8.length-1-j]? = some v:=⟨_,aa ()⟩
    obtain ⟨h,hh,b,rfl,hb⟩:=jD.get r8 hv
    have hb10:=k10 _ _ hb (ji hb h8 (by walk_at "z")) (λw=>(nds E8).2 (w ▸ hb))
    have hjw:j<(- wsh).toNat/\j<hs.length:=by have:=cn2 ();omega
    have hG:=hmp j hjw.1 hjw.2 h (by rw [show hs.length=o8.length by omega];exact hh)
    walk_at "r"
    refine ⟨by show 4<=sizeLine;decide,λt4 H11 ht4 ht411 s11=>?_⟩
    rw [eA] at ht411
    have h11:=s11 _ _ h10
    have e1d:(o8.take (o8.length-j)).dropLast=o8.take (o8.length-(j+1)):=by
     rw [List.dropLast_eq_take,aJ,si]
     congr 1
     omega
    have e1v:(o8.take (o8.length-j))[(o8.take (o8.length-j)).length-1]? = some (.ref b):=by
     rw [aJ,List.getElem?_take,if_pos (),show min (o8.length-j) o8.length-1=o8.length-1-j by omega]
     exact hv
    walk_at "r"
    refine ⟨.inl ⟨rfl,_,SqL.of h11⟩,hd,_,_,rfl,rfl,h11,e1v,?_⟩
    rw [e1d]
    have nT:∀{a:Addr} {u:HO},H11 a=some u->(∀xs,u≠.lst xs)->(upd H11 hd (.lst (o8.take (o8.length-(j+1))))) a=some u:=λh d=>by
     rw [j6 (ji h h11 (d _))]
     exact h
    obtain ⟨kvs,e1,e2,e3⟩:=(E10.keep (jj.same s11) λkvs h=>s11 _ _ h).keep (H':=upd H11 hd (.lst (o8.take (o8.length-(j+1))))) (λa xs h=>nT h (by walk_at "w")) λkvs h=>nT h (by walk_at "w")
    refine ⟨ea,_,rfl,vF.t (k:=yj h) e1 (nT (s11 _ _ hb10) (by walk_at "w")) (by rw [bA];omega),?_⟩
    refine ⟨_,rfl,?_,qy.put e1 e2 e3 (nT ht411 (by walk_at "w")) hG,λa u ha n1 n2=>by rw [j6 n2,j6 n1];exact s11 _ _ (k10 a u ha n1 n2)⟩
    rw [j6 (ji j5 e1 (by walk_at "z"))]
    exact j5
   rintro σ H10 ⟨x14',rfl,h10,E10,k10⟩
   have hdla:hd≠la:=(j1 (s6 _ _ hla5) hhd).symm
   have hdea:hd≠ea:=by
    obtain ⟨kvs,h,_⟩:=E5
    exact (j1 (s6 _ _ h) hhd).symm
   have up:∀{a:Addr} {u:HO},H5 a=some u->a≠ea->H10 a=some u:=λh n1=>k10 _ _ (e8 _ _ (s57 _ _ h) (j1 (s6 _ _ h) hhd)) (j1 (s6 _ _ h) hhd) n1
   have hla10:=up hla5 laea
   have hdH:H hd=none:=by
    cases e:H hd with
    | none=>rfl
    | some u =>
     rcases f03 hd u e hdea with h | ⟨_,ob,kvs,_,h⟩
     ·rw [s6 _ _ (k5 _ _ h hdea hdla)] at hhd
      cases hhd
     ·rw [s6 _ _ (k5 _ _ h hdea hdla)] at hhd
      cases hhd
   have P10:=P5.keep (H':=H10) (λa xs h=>up h λw=>(nds E5).2 (w ▸ h)) λz _ out h=>up h λw=>(nds E5).1 (w ▸ h)
   have r10:jD H10 (o8.take (o8.length-cn.toNat)) (xF hs y (p:Int) wsh):=by
    rw [<- Yp hs y (p:Int) wsh cn1 cn2,hl2,<- ol]
    exact jD.keep (wW _ r8) λa xs h=>k10 _ _ h (ji h h8 (by walk_at "z")) λw=>(nds E8).2 (w ▸ h)
   walk_at "r"
   refine ⟨la,_,rfl,vF.k (k:=.inl (R-(p:Int))) hla10 (by rw [af];exact jg ()),?_⟩
   rw [zY _ (jx.none P10 λq hq=>by
    obtain ⟨k',hk',rfl⟩:=List.mem_map.mp hq
    have:=List.mem_range.mp hk'
    show R-(k':Int)≠R-(p:Int)
    omega)]
   have nL:∀{a:Addr} {u v:HO},H10 a=some u->(∀kvs,u≠.dK kvs)->(upd H10 la v) a=some u:=λh d=>by
    rw [j6 (ji h hla10 (d _))]
    exact h
   refine ⟨_,_,_,_,_,_,ps2++[(R-(p:Int),hd)],rfl,by rw [j5,aB];rfl,by rw [ak,hl4];rfl,?_,λz hz=>?_,(E10.keep (λa xs h=>nL h (by walk_at "w")) λkvs h=>nL h (by walk_at "w")).mono (),λa u h n1 n2=>by rw [j6 n2];exact up (k5 a u h n1 n2) n1⟩
   ·rw [ck,aB]
    show jx _ _ (_++[(R-(p:Int),xF (qx cs (R-(p:Int))) y (p:Int) (chg (zh wr c.ts y) (gd.getD p 0)))])
    rw [hold,hwsh]
    exact jx.snoc (P10.keep (λa xs h=>nL h (by walk_at "w")) λz _ out h=>nL h (by walk_at "w")) (nL h10 (by walk_at "w")) (jD.keep r10 λa xs h=>nL h (by walk_at "w"))
   ·rcases List.mem_append.mp hz with h | h
    ·exact n4 z h
    ·rw [List.mem_singleton.mp h]
     exact hdH
  ·rintro σ H4 ⟨x9,x10,x11,x12,x13,x14,ps2,rfl,hla4,hl4,P4,n4,E4,k4⟩
   rw [af,uL] at P4 E4
   walk_at "r"
   exact k la ps2 H4 hlaH hla4 P4 n4 (E4.mono ()) λa u ha na=>by
    have w:a≠la:=j1 ha hlaH
    rcases f03 a u ha na with h | ⟨m,ob,kvs,eo,h⟩
    ·exact .inl (k4 a u h na w)
    ·exact .inr ⟨m,ob,kvs,eo,k4 a _ h na w⟩
noncomputable def qr (dn:List (Int×Int)) (gd:List Int) (wr:List (Int×T3)) (ts:List T3):Nat->List (Int×List T3)
 | 0=>[]
 | i+1=>(aG gd.length).map λp:Nat=>((i:Int)+jc dn (i:Int)-(p:Int),xF (qx (qr dn gd wr ts i) ((i:Int)+jc dn (i:Int)-(p:Int))) (i:Int) (p:Int) (chg (zh wr ts (i:Int)) (gd.getD p 0)))
theorem ZT (dn:List (Int×Int)) (gd:List Int) (wr:List (Int×T3)) (ts:List T3):∀i,(qr dn gd wr ts i).length<=gd.length
 | 0=>aC _
 | i+1=>by
  show (rR _ _).length<=_
  rw [af,br]
  exact aq _
theorem wa (dn:List (Int×Int)) (gd:List Int) (wr:List (Int×T3)) (ts:List T3):∀i,((qr dn gd wr ts i).map (·.1)).Nodup
 | 0=>.nil
 | i+1=>by
  show ((rR _ _).map _).Nodup
  rw [bS]
  refine fT _ (λa b h=>?_) (lO (n:=gd.length))
  show (i:Int)+jc dn (i:Int)-(a:Int)≠(i:Int)+jc dn (i:Int)-(b:Int)
  omega
theorem YZ {hs:List T3}{y p w:Int}(h:w<=9):(xF hs y p w).length<=hs.length+9:=by
 unfold xF
 split
 ·rw [ak,af,br]
  omega
 ·rw [aJ]
  omega
theorem Qu {cs:List (Int×List T3)}{n:Nat}(h:∀q∈cs,q.2.length<=n) (m:Int):(qx cs m).length<=n:=by
 unfold qx
 cases e:cs.find? λq=>decide (q.1=m) with
 | none=>exact aC _
 | some q=>exact h q (dm e)
theorem Jp {dn:List (Int×Int)}{gd:List Int}{wr:List (Int×T3)}{ts:List T3}(sg:∀z,good (zh wr ts z)=true):∀i,∀q∈qr dn gd wr ts i,q.2.length<=9*i
 | 0,q,h=>nomatch h
 | i+1,q,h=>by
  obtain ⟨p,_,rfl⟩:=List.mem_map.mp h
  have h1:=YZ (hs:=qx (qr dn gd wr ts i) ((i:Int)+jc dn (i:Int)-(p:Int))) (y:=(i:Int)) (p:=(p:Int)) (VZ (sg (i:Int)) (gd.getD p 0))
  have h2:=Qu (Jp (dn:=dn) (gd:=gd) sg i) ((i:Int)+jc dn (i:Int)-(p:Int))
  show (xF _ _ _ _).length<=_
  omega
theorem jx.keys {H:Hp}:∀{ps:List (Int×Addr)}{cs:List (Int×List T3)},jx H ps cs->ps.map (·.1)=cs.map (·.1)
 | _,_,.nil=>rfl
 | _,_,.cons ⟨e,_⟩ r=>by rw [aN,aN,e,jx.keys r]
noncomputable def Wl (G:List Key->List V->Prop) (dn:List (Int×Int)) (gd:List Int) (wr:List (Int×T3)) (ts:List T3) (i:Nat):Prop :=
 (∀q∈qr dn gd wr ts i,¬q.1∈zR ((i:Int)+jc dn (i:Int)) gd.length->∀h∈q.2,G (yj h) [.str "off",.int (i:Int)]) /\
 ∀p:Nat,p<gd.length->∀k:Nat,k<(- chg (zh wr ts (i:Int)) (gd.getD p 0)).toNat->k<(qx (qr dn gd wr ts i) ((i:Int)+jc dn (i:Int)-(p:Int))).length->∀h,(qx (qr dn gd wr ts i) ((i:Int)+jc dn (i:Int)-(p:Int)))[(qx (qr dn gd wr ts i) ((i:Int)+jc dn (i:Int)-(p:Int))).length-1-k]? = some h->G (yj h) [.str "melt",.int (i:Int),.int (p:Int),.int (k:Int)]
noncomputable def ym (H:Hp) (ds:List V) (n:Nat) (W:Nat->List (Int×List T3)) (ok:Addr->Prop):Prop:=ds.length=n/\∀k<n,∃d ps,ds[k]? = some (V.ref d)/\Rd H d (.dK (ps.map kvA))/\jx H ps (W (k+1))/\∀z∈ps,ok z.2
noncomputable def VU:Sp:=λvs H Q _=>∃(sd:Addr) (c:ScN) (g:IceG) (l last:Int) (wy:List Int) (da:Addr) (dn:List (Int×Int)) (wr:List (Int×T3)) (G:List Key->List V->Prop),vs=[.ref sd,.int l,.int last]/\ScAt H sd c/\LaneF c g l wy da dn/\zc H c.sk wr/\1<=c.ts.length/\c.ts.length<=1000/\(∀z,good (zh wr c.ts z)=true) /\ -1<=last/\last<88 /\
 (∀i:Nat,(i:Int)<=last->Wl G dn (ja c.rs wy) wr c.ts i) /\
 ∀(t fo ea:Addr) (ds:List V) (H':Hp),H t=none->H fo=none->H ea=none->H' t=some (.tup [.ref fo,.ref ea])->H' fo=some (.lst ds)->ym H' ds (last+1).toNat (qr dn (ja c.rs wy) wr c.ts) (λa=>H a=none)->qy G H' ea 16000000->FrM c.D H H'->Q (.ref t) H'
theorem xp:FnScope ["_law_scene_here","_law_lane","_law_last","_law_ends","_law_piles","_law_found","_law_year_here"] ["_law_scene_here","_law_lane","_law_last"] (j8 vD):=by walk_at "s"
theorem Ub {f:Addr}{fd:FuncData}(nb:Nb2 mg) (c_law_year_of:Cal P w K mg base 3 "_law_year_of" ["_law_scene_here","_law_lane","_law_piles","_law_year_here","_law_ends"] QU)
  (F:Fun K "_law_walk" "_law_walk" vD f fd):FnOk P w K mg base CX0 4 f fd ["_law_scene_here","_law_lane","_law_last"] VU:=by
 refine F.ok xp (λvs H Q E h=>?_) (λcdv A outer s H vs Q E hr h=>?_)
 ·obtain ⟨sd,c,g,l,last,wy,da,dn,wr,G,rfl,_⟩:=h
  rfl
 ·obtain ⟨sd,c,g,l,last,wy,da,dn,wr,G,rfl,S,LF,hw,t1,t2,sg,last0,last9,hE,k⟩:=h
  have g30:=LF.g30
  refine ⟨_,(j4 (jt 3 xp.nd VF)
   (j4 (jt 4 xp.nd y7)
   (j4 (jt 5 xp.nd (jL j2))
   (j4 (qt aV rfl (qh rfl nb.b_range (j0 (jq jN (pv 2) j7) j2)) (jb (i:=6) xp.nd rfl (aP rfl)) (j4 (jt 4 xp.nd (je c_law_year_of (hr.mono ⋯) rfl (j0 (pv 0) (j0 (pv 1) (j0 (pv 4) (j0 (pv 6) (j0 (pv 3) j2)))))))
   (j9 (jM (xu K aX aZ b7 jZ (pv 5) (j0 (pv 4) j2))))))
   (j9 (jk (jS (j0 (pv 5) (j0 (pv 3) j2))))))))),?_⟩
  walk_at "r"
  intro ea hea
  have hea1:(upd H ea (.dT [])) ea=some (.dT []):=j5
  have f1:FrM c.D H (upd H ea (.dT [])):=(FrM.of_same (jn.refl H)).put hea
  generalize upd H ea (.dT [])=H1 at *
  walk_at "r"
  intro pa0 hpa0
  have hpa0H:=f1.no hpa0
  have hpa2:(upd H1 pa0 (.dK [])) pa0=some (.dK []):=j5
  have hea2:(upd H1 pa0 (.dK [])) ea=some (.dT []):=by rw [j6 (j1 hea1 hpa0)];exact hea1
  have f2:FrM c.D H (upd H1 pa0 (.dK [])):=f1.put hpa0H
  clear hea1 hpa0 f1
  generalize upd H1 pa0 (.dK [])=H2 at *
  walk_at "r"
  refine ⟨aC _,λfo H3 hfo hfo3 s3=>?_⟩
  have hfoH:H fo=none:=f2.no hfo
  walk_at "r"
  refine ⟨(),(),?_⟩
  refine qR (λi σ H6=>∃(x6:Option V) (pa:Addr) (ps:List (Int×Addr)) (ds:List V),σ=[some (.ref sd),some (.int l),some (.int last),some (.ref ea),some (.ref pa),some (.ref fo),x6]/\H pa=none/\H6 pa=some (.dK (ps.map kvA))/\jx H6 ps (qr dn (ja c.rs wy) wr c.ts i)/\H6 fo=some (.lst ds)/\ym H6 ds i (qr dn (ja c.rs wy) wr c.ts) (λa=>a≠fo/\H a=none)/\qy G H6 ea (120000*i)/\FrM c.D H H6) ?_ ?_ ?_
  ·refine ⟨_,pa0,[],[],rfl,hpa0H,s3 _ _ hpa2,.nil,hfo3,⟨rfl,λk hk=>nomatch hk⟩,⟨[],s3 _ _ hea2,aC _,λk v h=>nomatch h⟩,f2.trans (FrM.of_same s3)⟩
  ·clear f2 hfo hfo3 s3 hpa2 hea2
   rintro i σ H6 hi ⟨x6,pa,ps,ds,rfl,hpaH,hpa6,P6,hfo6,D6,E6,f6⟩
   have hil:(i:Int)<=last:=()
   have hi8:i<88:=()
   have S6:=S.frM f6
   have hw6:=hw.keep (FrM.keepT f6)
   have hk:=jx.keys P6
   have hpl:ps.length<=100:=by
    have h1:=congrArg lh hk
    have h2:=ZT dn (ja c.rs wy) wr c.ts i
    rw [af,af] at h1
    omega
   walk_at "r"
   rw [eA]
   refine ⟨sd,c,g,l,(i:Int),wy,da,dn,wr,pa,ea,ps,_,120000*i,G,rfl,S6,LF,hw6,t1,t2,sg,hpa6,(j1 S.sd hpaH).symm,hk ▸ wa dn (ja c.rs wy) wr c.ts i,hpl,P6,λq hq=>by have:=Jp sg i q hq;omega,E6,(),(hE i hil).1,(hE i hil).2,λla ps2 H7 hla hla7 P7 n7 E7 f7=>?_⟩
   have hlaH:=f6.no hla
   have laf:la≠fo:=(j1 hfo6 hla).symm
   have foea:fo≠ea:=by
    obtain ⟨kvs,h,_⟩:=E6
    exact ji hfo6 h (by walk_at "z")
   have nea:∀{a:Addr} {u:HO},H6 a=some u->(∀kvs,u≠.dT kvs)->¬a=ea:=λh d w=>by
    obtain ⟨kvs,h1,_⟩:=E6
    rw [w,h1] at h
    exact d kvs (aR h).symm
   have hfo7:=f7.at hfo6 foea (by walk_at "w")
   have f07:FrM c.D H H7:=λa u ha=>by
    have w1:a≠ea:=j1 ha hea
    have w2:a≠pa:=j1 ha hpaH
    rcases f6 a u ha with h | ⟨m,ob,kvs,eo,h⟩
    ·rcases f7 a u h w1 with h' | ⟨m,ob,kvs,eo,h'⟩
     ·exact .inl h'
     ·exact .inr ⟨m.resolve_right w2,ob,kvs,eo,h'⟩
    ·exact .inr ⟨m,ob,kvs,eo,f7.at h w1 (by walk_at "w")⟩
   have D7:∀k<i,∃d ps,ds[k]? = some (V.ref d)/\Rd H7 d (.dK (ps.map kvA))/\jx H7 ps (qr dn (ja c.rs wy) wr c.ts (k+1))/\∀z∈ps,z.2≠fo/\H z.2=none:=λk hk=>by
    obtain ⟨d,ps',h1,h2,h3,h4⟩:=D6.2 k hk
    refine ⟨d,ps',h1,f7.rd (by rcases h2 with h | ⟨ob,h⟩ <;> exact nea h (by walk_at "w")) h2,h3.keep (λa xs h=>f7.at h (nea h (by walk_at "w")) (by walk_at "w")) λz _ out h=>f7.at h (nea h (by walk_at "w")) (by walk_at "w"),h4⟩
   have n7':∀z∈ps2,z.2≠fo/\H z.2=none:=λz hz=>⟨(j1 hfo6 (n7 z hz)).symm,f6.no (n7 z hz)⟩
   have dsl:=D6.1
   clear D6 f7 hpa6 P6 S6 hw6 hk hpl nea
   walk_at "r"
   refine ⟨.inl ⟨rfl,_,SqL.of hfo7⟩,?_⟩
   walk_at "r"
   refine ⟨_,_,_,rfl,rfl,hfo7,jg (),?_⟩
   have nF:∀{a:Addr} {u v:HO},H7 a=some u->(∀xs,u≠.lst xs)->(upd H7 fo v) a=some u:=λh d=>by
    rw [j6 (ji h hfo7 (d _))]
    exact h
   have pF:∀{v:HO} {ps:List (Int×Addr)} {cs:List (Int×List T3)},jx H7 ps cs->(∀z∈ps,z.2≠fo/\H z.2=none)->jx (upd H7 fo v) ps cs:=λh d=>h.keep (λa xs h=>nF h (by walk_at "w")) λz hz out h=>by rw [j6 (d z hz).1];exact h
   refine ⟨_,la,ps2,ds++[.ref la],rfl,hlaH,nF hla7 (by walk_at "w"),pF P7 n7',j5,⟨by rw [ak,dsl];rfl,λk hk=>?_⟩,(E7.keep (λa xs h=>nF h (by walk_at "w")) λkvs h=>nF h (by walk_at "w")).mono (),f07.put hfoH⟩
   by_cases z:k<i
   ·obtain ⟨d,ps',h1,h2,h3,h4⟩:=D7 k z
    exact ⟨d,ps',by rw [cI ()];exact h1,h2.imp (λh=>nF h (by walk_at "w")) λ⟨ob,h⟩=>⟨ob,nF h (by walk_at "w")⟩,pF h3 h4,h4⟩
   ·have e:k=i:=()
    subst e
    exact ⟨la,ps2,by rw [c5 (),dsl,oI];rfl,.inl (nF hla7 (by walk_at "w")),pF P7 n7',n7'⟩
  ·rintro σ H6 ⟨x6,pa,ps,ds,rfl,hpaH,hpa6,P6,hfo6,D6,E6,f6⟩
   walk_at "r"
   refine ⟨by show 2<=sizeLine;decide,λt H7 ht ht7 s7=>?_⟩
   refine k t fo ea ds H7 (f6.no ht) hfoH hea ht7 (s7 _ _ hfo6) ⟨D6.1,λk hk=>?_⟩ ((E6.keep (jj.same s7) λkvs h=>s7 _ _ h).mono ()) (f6.trans (FrM.of_same s7))
   obtain ⟨d,ps',h1,h2,h3,h4⟩:=D6.2 k hk
   exact ⟨d,ps',h1,h2.imp (λh=>s7 _ _ h) λ⟨ob,h⟩=>⟨ob,s7 _ _ h⟩,h3.keep (jj.same s7) λz _ out h=>s7 _ _ h,λz hz=>(h4 z hz).2⟩
theorem QS {R m:Int}{f:Nat->List T3}:∀{n:Nat},qx ((aG n).map λp:Nat=>(R-(p:Int),f p)) m=if 0<=R-m/\R-m<(n:Int) then f (R-m).toNat else []:=λ{n}=>by
 unfold qx
 by_cases z:0<=R-m/\R-m<(n:Int)
 ·rw [if_pos z]
  have e:((aG n).map λp:Nat=>(R-(p:Int),f p)).find? (λq=>decide (q.1=m))=some (m,f (R-m).toNat):=by
   rw [List.find?_map]
   have e2:(aG n).find? ((λq:Int×List T3=>decide (q.1=m)) ∘ λp:Nat=>(R-(p:Int),f p))=some (R-m).toNat:=by
    rw [List.find?_range_eq_some]
    refine ⟨?_,List.mem_range.mpr (),λj hj=>?_⟩
    ·show decide (R-(((R-m).toNat:Nat):Int)=m)=true
     exact decide_eq_true ()
    ·show (!decide (R-(j:Int)=m))=true
     rw [decide_eq_false ()]
     rfl
   rw [e2]
   show some (R-(((R-m).toNat:Nat):Int),_)=_
   rw [show R-(((R-m).toNat:Nat):Int)=m by omega]
  rw [e]
  rfl
 ·rw [if_neg z]
  have e:((aG n).map λp:Nat=>(R-(p:Int),f p)).find? (λq=>decide (q.1=m))=none:=by
   rw [List.find?_eq_none]
   intro q hq
   obtain ⟨p,hp,rfl⟩:=List.mem_map.mp hq
   have:=List.mem_range.mp hp
   rw [decide_eq_true_eq]
   show ¬R-(p:Int)=m
   omega
  rw [e]
  rfl
theorem kI (dn:List (Int×Int)) (gd:List Int) (wr:List (Int×T3)) (ts:List T3) (i:Nat) (m:Int):qx (qr dn gd wr ts (i+1)) m=if 0<=(i:Int)+jc dn (i:Int)-m/\(i:Int)+jc dn (i:Int)-m<(gd.length:Int) then xF (qx (qr dn gd wr ts i) m) (i:Int) ((i:Int)+jc dn (i:Int)-m) (yX dn gd wr ts m (i:Int)) else []:=by
 show qx ((aG gd.length).map λp:Nat=>((i:Int)+jc dn (i:Int)-(p:Int),xF (qx (qr dn gd wr ts i) ((i:Int)+jc dn (i:Int)-(p:Int))) (i:Int) (p:Int) (chg (zh wr ts (i:Int)) (gd.getD p 0)))) m=_
 rw [QS (f:=λp:Nat=>xF (qx (qr dn gd wr ts i) ((i:Int)+jc dn (i:Int)-(p:Int))) (i:Int) (p:Int) (chg (zh wr ts (i:Int)) (gd.getD p 0)))]
 by_cases z:0<=(i:Int)+jc dn (i:Int)-m/\(i:Int)+jc dn (i:Int)-m<(gd.length:Int)
 ·rw [if_pos z,if_pos z]
  have e:((((i:Int)+jc dn (i:Int)-m).toNat:Nat):Int)=(i:Int)+jc dn (i:Int)-m:=()
  show xF (qx (qr dn gd wr ts i) ((i:Int)+jc dn (i:Int)-((((i:Int)+jc dn (i:Int)-m).toNat:Nat):Int))) _ ((((i:Int)+jc dn (i:Int)-m).toNat:Nat):Int) _=_
  rw [e,show (i:Int)+jc dn (i:Int)-((i:Int)+jc dn (i:Int)-m)=m by omega]
  rfl
 ·rw [if_neg z,if_neg z]
theorem V6 {hs:List T3}{y p w d:Int}(hd:(hs.length:Int)=d):((xF hs y p w).length:Int)=d+(if w > - d then w else-d):=by
 unfold xF
 by_cases z:0<w
 ·rw [if_pos z,if_pos (show w > - d by omega),ak,af,br]
  omega
 ·rw [if_neg z,aJ]
  split <;> omega
theorem VG {dn ms:List (Int×Int)}{gd:List Int}{wr:List (Int×T3)}{ts:List T3}(hp:ms.Perm dn) (hs:(ms.map (·.1)).Pairwise (· <= ·)) (nd:(dn.map (·.1)).Nodup) (pos:∀q∈dn,0<=q.1/\0<=q.2) (m:Int) :
  ∀j:Nat,j<=(jp 0 0 ms (m+(gd.length:Int))-jp 0 0 ms m).toNat->((qx (qr dn gd wr ts ((jp 0 0 ms m).toNat+j)) m).length:Int)=QQ ms gd wr ts m (jp 0 0 ms m) j:=by
 have f0:=zM hp hs pos m
 have sper:=λy=>zu hp y
 intro j
 induction j with
 | zero =>
  intro _
  have e:qx (qr dn gd wr ts ((jp 0 0 ms m).toNat+0)) m=[]:=by
   rw [Nat.add_zero]
   cases h:(jp 0 0 ms m).toNat with
   | zero=>rfl
   | succ i =>
    rw [kI,if_neg]
    intro z
    have:=(xD hp hs nd pos m (gd.length:Int) (i:Int) ()).mp z
    omega
  rw [e]
  rfl
 | succ j ih =>
  intro hj
  have ih2:=ih ()
  have ey:(((jp 0 0 ms m).toNat+j:Nat):Int)=jp 0 0 ms m+(j:Int):=()
  have hon:=(xD hp hs nd pos m (gd.length:Int) (((jp 0 0 ms m).toNat+j:Nat):Int) ()).mpr ()
  have eat:=kI dn gd wr ts ((jp 0 0 ms m).toNat+j) m
  rw [if_pos hon] at eat
  have ew:yX dn gd wr ts m (((jp 0 0 ms m).toNat+j:Nat):Int)=yX ms gd wr ts m (jp 0 0 ms m+(j:Int)):=by
   rw [ey]
   unfold yX plc
   rw [sper]
  rw [<- Nat.add_assoc,eat,V6 ih2,ew]
  rfl
theorem Qn {F:List T3->Prop}(h0:F []) {cs:List (Int×List T3)}(h:∀q∈cs,F q.2) (m:Int):F (qx cs m):=by
 unfold qx
 cases e:cs.find? λq=>decide (q.1=m) with
 | none=>exact h0
 | some q=>exact h q (dm e)
theorem Z7 {hs:List T3}{y p w:Int}(h:hs.Nodup/\∀x∈hs,x.1<y):(xF hs y p w).Nodup/\∀x∈xF hs y p w,x.1<y+1:=by
 unfold xF
 by_cases z:0<w
 ·rw [if_pos z]
  have hy:∀x∈(aG w.toNat).map (λk:Nat=>(y,p,(k:Int))),x.1=y:=λx hx=>by
   obtain ⟨k,_,rfl⟩:=List.mem_map.mp hx
   rfl
  refine ⟨List.nodup_append.mpr ⟨h.1,?_,λa ha b hb e=>?_⟩,λx hx=>?_⟩
  ·refine fT _ (λa b hab e=>hab ?_) (lO (n:=w.toNat))
   have:=congrArg (λq:T3=>q.2.2) e
   have this:(a:Int)=(b:Int):=this
   omega
  ·have h1:=h.2 a ha
   have h2:=hy b hb
   rw [e] at h1
   omega
  ·rcases List.mem_append.mp hx with k | k
   ·have:=h.2 x k
    omega
   ·have:=hy x k
    omega
 ·rw [if_neg z]
  refine ⟨h.1.sublist (oz _ _),λx hx=>?_⟩
  have:=h.2 x (dA hx)
  omega
theorem wb (dn:List (Int×Int)) (gd:List Int) (wr:List (Int×T3)) (ts:List T3):∀(i:Nat),∀q∈qr dn gd wr ts i,q.2.Nodup/\∀x∈q.2,x.1<(i:Int)
 | 0,q,h=>nomatch h
 | i+1,q,h=>by
  obtain ⟨p,_,rfl⟩:=List.mem_map.mp h
  exact Z7 (Qn (F:=λl=>l.Nodup/\∀x∈l,x.1<(i:Int)) ⟨.nil,λx hx=>nomatch hx⟩ (wb dn gd wr ts i) _)
noncomputable def Und (U:List T3) (Y:Int) (b:Nat) (hs:List T3):Prop:=∃zA,hs=U.take (min b hs.length)++zA/\∀x∈zA,Y<x.1
theorem Und.start {U:List T3}{Y:Int}:Und U Y U.length U:=⟨[],by rw [Nat.min_self,aW,aM],λx hx=>nomatch hx⟩
theorem Und.step {U hs:List T3}{Y y p w:Int}{b:Nat}(h:Und U Y b hs) (hb:b<=U.length) (hy:Y<y):Und U Y (min b hs.length) (xF hs y p w):=by
 obtain ⟨zA,e,hr⟩:=h
 generalize hc:min b hs.length=c at *
 have hcU:(U.take c).length=c:=by rw [aJ];omega
 by_cases z:0<w
 ·have e2:xF hs y p w=U.take c++(zA++(aG w.toNat).map (λk:Nat=>(y,p,(k:Int)))):=by
   unfold xF
   rw [if_pos z,<- cD,<- e]
  refine ⟨zA++(aG w.toNat).map (λk:Nat=>(y,p,(k:Int))),?_,λx hx=>?_⟩
  ·rw [show min c (xF hs y p w).length=c from ?_]
   ·exact e2
   ·rw [e2,ak,hcU]
    omega
  ·rcases List.mem_append.mp hx with k | k
   ·exact hr x k
   ·obtain ⟨k,_,rfl⟩:=List.mem_map.mp k
    exact hy
 ·have e2:xF hs y p w=hs.take (hs.length-(- w).toNat):=by
   unfold xF
   rw [if_neg z]
  generalize hn:hs.length-(- w).toNat=n at e2
  have hl:(xF hs y p w).length=n:=by rw [e2,aJ];omega
  refine ⟨zA.take (n-c),?_,λx hx=>hr x (dA hx)⟩
  rw [hl,e2]
  conv=>lhs;rw [e]
  rw [List.take_append,hcU,si,Nat.min_comm]
theorem Und.count {U hs:List T3}{Y:Int}{b:Nat}(h:Und U Y b hs) (hb:b<=U.length) (hU:∀x∈U,x.1<=Y):(hs.filter λx=>decide (x∈U)).length=min b hs.length:=by
 obtain ⟨zA,e,hr⟩:=h
 generalize hc:min b hs.length=c at *
 rw [e,bK,List.filter_eq_self.mpr λx hx=>decide_eq_true (dA hx),List.filter_eq_nil_iff.mpr,aM,aJ]
 ·omega
 ·intro x hx z
  have h1:=hU x (of_decide_eq_true z)
  have h2:=hr x hx
  omega
theorem Je {a b:T3}(h:yj a=yj b):a=b:=by
 obtain ⟨a1,a2,a3⟩:=a
 obtain ⟨b1,b2,b3⟩:=b
 unfold yj at h
 cases h
 rfl
theorem Vi (U:List T3) (x:T3):(jV ((U.map yj).map λm=>((m,.bl true):List Key×V)) (yj x)).isSome=decide (x∈U):=by
 rw [<- yd,dv,List.any_eq_true,decide_eq_true_eq]
 constructor
 ·rintro ⟨kv,hk,e⟩
  obtain ⟨m,hm,rfl⟩:=List.mem_map.mp hk
  obtain ⟨u,hu,rfl⟩:=List.mem_map.mp hm
  rw [<- Je (of_decide_eq_true e)]
  exact hu
 ·intro h
  exact ⟨_,List.mem_map.mpr ⟨_,List.mem_map.mpr ⟨x,h,rfl⟩,rfl⟩,decide_eq_true rfl⟩
inductive ResD where
 | left (y n:Int)
 | off (y:Int)
noncomputable def resT:ResD->List V
 | .left y n=>[.str "left",.int y,.int n]
 | .off y=>[.str "off",.int y]
noncomputable def VL (W:List Q4):ResD :=
 if (W.getLastD (0,0,0,0)).2.2.1+(W.getLastD (0,0,0,0)).2.2.2=0 then .left (W.getLastD (0,0,0,0)).1 (W.getLastD (0,0,0,0)).2.1 else .off ((W.getLastD (0,0,0,0)).1+1)
noncomputable def kN:Sp:=λvs H Q _=>∃(sd:Addr) (c:ScN) (g:IceG) (l n y:Int) (wy:List Int) (da:Addr) (dn ms:List (Int×Int)) (wr:List (Int×T3)),vs=[.ref sd,.int l,.int n,.int y]/\ScAt H sd c/\LaneF c g l wy da dn/\ms.Perm dn/\(ms.map (·.1)).Pairwise (· <= ·)/\zc H c.sk wr/\1<=c.ts.length/\c.ts.length<=1000/\(∀z,good (zh wr c.ts z)=true)/\0<=n/\n<((ja c.rs wy).length:Int)/\0<=y/\y<=50 /\
 ∀(t ro en:Addr) (out:List V) (H':Hp),H t=none->H ro=none->H' t=some (.tup [.ref ro,.ref en])->H' ro=some (.lst out)->qP H' out (y6 ((jW ms (ja c.rs wy) wr c.ts (y+jc dn y-n)).drop (y-jp 0 0 ms (y+jc dn y-n)).toNat))->H' en=some (.tup (resT (VL (y6 ((jW ms (ja c.rs wy) wr c.ts (y+jc dn y-n)).drop (y-jp 0 0 ms (y+jc dn y-n)).toNat)))))->FrM c.D H H'->Q (.ref t) H'
theorem ym.fr {M:Addr->Prop}{H H':Hp}{ds:List V}{n:Nat}{W:Nat->List (Int×List T3)}{ok:Addr->Prop}(D:ym H ds n W ok) (f:FrM M H H'):ym H' ds n W ok:=⟨D.1,λk hk=>by
 obtain ⟨d,ps,h1,h2,h3,h4⟩:=D.2 k hk
 exact ⟨d,ps,h1,f.rd h2,h3.keep (FrM.keepT f) λz _ out h=>f.at h (by walk_at "w"),h4⟩⟩
theorem ym.get {H:Hp}{ds:List V}{n k:Nat}{dn:List (Int×Int)}{gd:List Int}{wr:List (Int×T3)}{ts:List T3}{ok:Addr->Prop}{m:Int}(D:ym H ds n (qr dn gd wr ts) ok) (hk:k<n) (h0:0<=(k:Int)+jc dn (k:Int)-m) (h1:(k:Int)+jc dn (k:Int)-m<(gd.length:Int)):∃d ha out kvs,ds[k]? = some (V.ref d)/\Rd H d (.dK kvs)/\jV kvs (.inl m)=some (.ref ha)/\H ha=some (.lst out)/\jD H out (qx (qr dn gd wr ts (k+1)) m):=by
 obtain ⟨d,ps,hds,hd,P1,_⟩:=D.2 k hk
 have hpl:ps.length=gd.length:=by
  have h1:=congrArg lh (jx.keys P1)
  rw [af,af] at h1
  rw [h1]
  show ((aG _).map _).length=_
  rw [af,br]
 have hnd:(ps.map (·.1)).Nodup:=jx.keys P1 ▸ wa dn gd wr ts (k+1)
 obtain ⟨z,hz⟩:∃z,ps[((k:Int)+jc dn (k:Int)-m).toNat]? = some z:=⟨_,aa ()⟩
 obtain ⟨q,hq,ez,out,hout,hrows⟩:=Paired.get P1 hz
 have e:qx (qr dn gd wr ts (k+1)) m=_:=QS (R:=(k:Int)+jc dn (k:Int)) (m:=m) (n:=gd.length) (f:=λp:Nat=>xF (qx (qr dn gd wr ts k) ((k:Int)+jc dn (k:Int)-(p:Int))) (k:Int) (p:Int) (chg (zh wr ts (k:Int)) (gd.getD p 0)))
 rw [if_pos ()] at e
 have hq2:q=((k:Int)+jc dn (k:Int)-((((k:Int)+jc dn (k:Int)-m).toNat:Nat):Int),qx (qr dn gd wr ts (k+1)) m):=by
  rw [e]
  refine (aR (hq.symm.trans ?_))
  show ((aG gd.length).map _)[_]? = _
  rw [av,dI ()]
  rfl
 rw [hq2] at ez hrows
 refine ⟨d,z.2,out,ps.map kvA,hds,hd,?_,hout,hrows⟩
 have ez:z.1=m:=by
  have ez:z.1=(k:Int)+jc dn (k:Int)-((((k:Int)+jc dn (k:Int)-m).toNat:Nat):Int):=ez
  omega
 rw [<- ez]
 exact vj hnd (ax hz)
structure StCol (rows:List Q4) (U:Nat->List T3) (pl:Nat->Int) (yn:Nat) (len:Int):Prop where
 row:∀(j:Nat) q,rows[j]? = some q->q.1=(yn:Int)+(j:Int)/\q.2.1=pl j/\q.2.2.2=((U j).length:Int)
 step:∀j,j+1<rows.length->∀b,b<=(U 0).length->Und (U 0) (yn:Int) b (U j)->Und (U 0) (yn:Int) (min b (U j).length) (U (j+1))
 l1:1<=rows.length
 l2:(rows.length:Int)<=len
 on:∀j,j<rows.length↔pl j<len
 nn:∀j,0<=pl j
 nd:(U 0).Nodup
 lt:∀x∈U 0,x.1<=(yn:Int)
 sz:∀j,j<=30->yn<=50->(U j).length<=729
theorem WW {dn ms:List (Int×Int)}{gd:List Int}{wr:List (Int×T3)}{ts:List T3}{yn:Nat}{m:Int}(sg:∀z,good (zh wr ts z)=true) (hp:ms.Perm dn) (hs:(ms.map (·.1)).Pairwise (· <= ·)) (nd:(dn.map (·.1)).Nodup) (pos:∀q∈dn,0<=q.1/\0<=q.2) (h0:0<=(yn:Int)+jc dn (yn:Int)-m) (h1:(yn:Int)+jc dn (yn:Int)-m<(gd.length:Int)) :
  StCol ((jW ms gd wr ts m).drop ((yn:Int)-jp 0 0 ms m).toNat) (λj=>qx (qr dn gd wr ts (yn+j+1)) m) (λj=>((yn+j:Nat):Int)+jc dn ((yn+j:Nat):Int)-m) yn (gd.length:Int):=by
 have onm:=(xD hp hs nd pos m (gd.length:Int) (yn:Int) ()).mp ⟨h0,h1⟩
 have f0:=zM hp hs pos m
 have spl:=uB hp hs nd pos m (gd.length:Int) ()
 have hlo:=zq ms gd wr ts m
 have sper:=λy=>zu hp y
 have hrl:((jW ms gd wr ts m).drop ((yn:Int)-jp 0 0 ms m).toNat).length=(jp 0 0 ms (m+(gd.length:Int))-(yn:Int)).toNat:=by rw [d6];omega
 have nn:∀j:Nat,0<=((yn+j:Nat):Int)+jc dn ((yn+j:Nat):Int)-m:=λj=>by
  have:=ke (λq hq=>(pos q hq).2) (show (yn:Int)<=((yn+j:Nat):Int) by omega)
  omega
 have on:∀j:Nat,j<((jW ms gd wr ts m).drop ((yn:Int)-jp 0 0 ms m).toNat).length↔((yn+j:Nat):Int)+jc dn ((yn+j:Nat):Int)-m<(gd.length:Int):=λj=>by
  have:=xD hp hs nd pos m (gd.length:Int) ((yn+j:Nat):Int) ()
  rw [hrl]
  constructor
  ·intro h
   exact (this.mpr ()).2
  ·intro h
   have:=this.mp ⟨nn j,h⟩
   omega
 have fr:=Qn (F:=λl=>l.Nodup/\∀x∈l,x.1<((yn+0+1:Nat):Int)) ⟨.nil,λx hx=>nomatch hx⟩ (wb dn gd wr ts (yn+0+1)) m
 refine ⟨λj q hq=>?_,λj hj b hb hu=>?_,(),(),on,nn,fr.1,λx hx=>?_,λj hj hy=>?_⟩
 ·have hj:=(List.getElem?_eq_some_iff.mp hq).1
  rw [hrl] at hj
  rw [nO] at hq
  unfold jW wk at hq
  rw [av,dI ()] at hq
  have hq:=aR hq
  subst hq
  have ey:jp 0 0 ms m+(((yn:Int)-jp 0 0 ms m).toNat+j:Nat)=((yn+j:Nat):Int):=()
  have hd:=VG (gd:=gd) (wr:=wr) (ts:=ts) hp hs nd pos m (((yn:Int)-jp 0 0 ms m).toNat+j+1) ()
  rw [show (jp 0 0 ms m).toNat+(((yn:Int)-jp 0 0 ms m).toNat+j+1)=yn+j+1 by omega] at hd
  refine ⟨?_,?_,hd.symm⟩
  ·show jp 0 0 ms m+_=_
   rw [ey]
   omega
  ·show plc ms m (jp 0 0 ms m+_)=_
   unfold plc
   rw [ey,sper]
 ·have e:=kI dn gd wr ts (yn+j+1) m
  rw [if_pos ⟨nn (j+1),(on (j+1)).mp hj⟩] at e
  show Und _ _ _ (qx (qr dn gd wr ts (yn+(j+1)+1)) m)
  rw [show yn+(j+1)+1=yn+j+1+1 by omega,e]
  exact hu.step hb ()
 ·have:=fr.2 x hx
  omega
 ·have:=Qu (Jp (dn:=dn) (gd:=gd) sg (yn+j+1)) m
  show (qx (qr dn gd wr ts (yn+j+1)) m).length<=_
  omega
theorem Y3 {X:List Q4}{q:Q4}(h:q.2.2.1+q.2.2.2=0):VL (X++[q]) = .left q.1 q.2.1:=by
 unfold VL
 rw [mW,if_pos h]
theorem V8 {X:List Q4}{q:Q4}(h:q.2.2.1+q.2.2.2≠0):VL (X++[q]) = .off (q.1+1):=by
 unfold VL
 rw [mW,if_neg h]
theorem jA:FnScope ["_law_scene_here","_law_lane","_law_place","_law_year_here","_law_length","_law_one","_law_found","_law_ends","_law_under","_law_rows","_law_when","_law_spot_here","_law_hands","_law_beneath"] ["_law_scene_here","_law_lane","_law_place","_law_year_here"] (j8 qO):=by walk_at "s"
theorem JE {f:Addr}{fd:FuncData}(nb:Nb2 mg) (b_dict:mg "dict" = none) (c_law_ride:Cal P w K mg base 1 "_law_ride" ["_law_scene_here","_law_lane","_law_year_here"] Jt) (c_law_walk:Cal P w K mg base 4 "_law_walk" ["_law_scene_here","_law_lane","_law_last"] VU)
  (F:Fun K "_law_stone_way" "_law_stone_way" qO f fd):FnOk P w K mg base CX0 5 f fd ["_law_scene_here","_law_lane","_law_place","_law_year_here"] kN:=by
 refine F.ok jA (λvs H Q E h=>?_) (λcdv A outer s H vs Q E hr h=>?_)
 ·obtain ⟨sd,c,g,l,n,y,wy,da,dn,ms,wr,rfl,_⟩:=h
  rfl
 ·obtain ⟨sd,c,g,l,n,y,wy,da,dn,ms,wr,rfl,S,LF,hp,hs,hw,t1,t2,sg,n0,n1,y0,y50,k⟩:=h
  have g30:=LF.g30
  have g1:=LF.g1
  obtain ⟨yn,rfl⟩:∃yn:Nat,y=(yn:Int):=⟨y.toNat,()⟩
  have C:=WW (gd:=ja c.rs wy) (wr:=wr) (ts:=c.ts) (yn:=yn) (m:=(yn:Int)+jc dn (yn:Int)-n) sg hp hs LF.nd LF.pos () ()
  refine ⟨_,(j4 (jt 4 jA.nd (jf (jh K) rfl nb.b_len aT (j0 (jo (jd K) (jJ (jR hr) (pv 0) jF (λ_ _=>rfl)) (pv 1) (λ_ _=>rfl)) j2)))
   (j4 (jt 5 jA.nd (jq qG (je c_law_ride (hr.mono ⋯) rfl (j0 (pv 0) (j0 (pv 1) (j0 (pv 3) j2)))) (pv 2)))
   (j4 (xG (je c_law_walk (hr.mono ⋯) rfl (j0 (pv 0) (j0 (pv 1) (j0 (jq jN (jq jN (pv 3) (pv 4)) j7) j2)))) (qv (n:=2) K rfl (jm (jb (i:=6) jA.nd rfl (aP rfl)) (jm (jb (i:=7) jA.nd rfl (aP rfl)) qw))))
   (j4 (yW (i:=8) jA.nd rfl (iS rfl) (qI (Zl K hr.units rfl) rfl b_dict ma (j0 (jY (osc:=(j8 qO)) (ON:=["_law_scene_here","_law_lane","_law_place","_law_year_here","_law_length","_law_one","_law_found","_law_ends","_law_under","_law_rows","_law_when","_law_spot_here","_law_hands","_law_beneath"]) (N:=["_law_hand"]) (own:=1) (caps:=[]) ⟨rfl,∅,∅,∅,rfl,∅⟩ rfl rfl rfl (jP K (jJ (jR hr) (jo (jd K) (pv 6) (pv 3) (λ_ _=>rfl)) (pv 5) (λ_ _=>rfl))) (λ_ _ _ _ _=>(jb (i:=0) (show bo (["_law_hand"]:List Str) by decide +kernel) rfl (aP rfl))) (λ_ _ _ _ _=>jK) (λ_ _ _ _ _=>(jS (j0 (pv 0) (j0 wV j2))))) j2)))
   (j4 (jt 9 jA.nd (jL j2))
   (j4 (qt aV rfl (Jk rfl nb.b_range (j0 (pv 3) (j0 (jq jN (pv 3) (pv 4)) j2))) (jb (i:=10) jA.nd rfl (aP rfl)) (j4 (jt 11 jA.nd (jq qG (je c_law_ride (hr.mono ⋯) rfl (j0 (pv 0) (j0 (pv 1) (j0 (pv 10) j2)))) (pv 5)))
   (j9 (jU (jz vw (pv 11) (pv 4) (jG _)) (j4 (jt 12 jA.nd (jJ (jR hr) (jo (jd K) (pv 6) (pv 10) (λ_ _=>rfl)) (pv 5) (λ_ _=>rfl)))
   (j4 (jt 13 jA.nd (jf (jh K) rfl nb.b_len aT (j0 (jY (osc:=(j8 qO)) (ON:=["_law_scene_here","_law_lane","_law_place","_law_year_here","_law_length","_law_one","_law_found","_law_ends","_law_under","_law_rows","_law_when","_law_spot_here","_law_hands","_law_beneath"]) (N:=["_law_hand","_law_under"]) (own:=1) (caps:=[8]) ⟨rfl,∅,∅,∅,rfl,∅⟩ rfl rfl rfl (jP K (pv 12)) (λ_ _ _ _ _=>(jb (i:=0) (show bo (["_law_hand","_law_under"]:List Str) by decide +kernel) rfl (aP rfl))) (λ_ _ _ _ _=>(yQ (VO (VX (jR hr) (pv 0) (pv 1)) (by with_unfolding_all rfl)))) (λ_ _ _ _ _=>(pv 0))) j2)))
   (j4 (jM (xu K aX aZ b7 jZ (pv 9) (j0 (jS (j0 (pv 10) (j0 (pv 11) (j0 (jq qG (jf (jh K) rfl nb.b_len aT (j0 (pv 12) j2)) (pv 13)) (j0 (pv 13) j2))))) j2)))
   (j9 (jU (jz y8 (jf (jh K) rfl nb.b_len aT (j0 (pv 12) j2)) j7 (jG _)) (j9 (jk (jS (j0 (pv 9) (j0 (jS (j0 jF (j0 (pv 10) (j0 (pv 11) j2)))) j2))))) jw))))) jw))))
   (j9 (jk (jS (j0 (pv 9) (j0 (jS (j0 jF (j0 (jq jN (jo (qo K) (jo (jd K) (pv 9) (zX xJ j7) (λ_ _=>rfl)) j7 (λ_ _=>rfl)) j7) j2))) j2))))))))))),?_⟩
  obtain ⟨ga,ega,hga⟩:=S.gnd LF
  walk_at "r"
  refine ⟨sd,.ref c.gl,rfl,by rw [<- xH c.p c.q c.sg c.gl c.ll];exact qU.k (k:=.inr "grounds") S.sd,?_⟩
  walk_at "r"
  refine ⟨_,_,_,_,rfl,rfl,SqL.of S.gl,ega,?_⟩
  walk_at "r"
  refine ⟨ga,_,rfl,.inl (SqL.of hga),?_⟩
  rw [af]
  walk_at "r"
  simp only [gg,aM]
  refine kG S LF λH1 f1=>?_
  have S1:=S.frM f1
  have hw1:=hw.keep (FrM.keepT f1)
  walk_at "r"
  simp only [gg,aM]
  refine ⟨sd,c,g,l,(yn:Int)+((ja c.rs wy).length:Int)+1,wy,da,dn,wr,λ_ _=>True,rfl,S1,LF,hw1,t1,t2,sg,(),(),(λi _=>⟨λ_ _ _ _ _=>trivial,λ_ _ _ _ _ _ _=>trivial⟩),λt fo ea ds H2 ht hfo hea ht2 hfo2 D2 _ f2=>?_⟩
  have f02:=f1.trans f2
  clear f2 S1 hw1
  walk_at "r"
  refine ⟨t,_,rfl,SqT.of ht2,rfl,?_⟩
  refine ⟨_,_,rfl,_,_,rfl,rfl,?_⟩
  walk_at "r"
  have nn0:=C.nn 0
  have on0:=(C.on 0).mp C.l1
  obtain ⟨d0,ha0,out0,kvs0,hds0,hd0,hv0,hha0,r0⟩:=D2.get (m:=(yn:Int)+jc dn (yn:Int)-n) (k:=yn) () nn0 on0
  generalize hm:(yn:Int)+jc dn (yn:Int)-n=m at *
  refine ⟨_,_,_,_,rfl,rfl,SqL.of hfo2,qS (v:=V.ref d0) () (by rw [bE];exact hds0),?_⟩
  walk_at "r"
  refine ⟨d0,.ref ha0,rfl,.inl ⟨_,.inl m,hd0,rfl,hv0.symm⟩,?_⟩
  walk_at "r"
  refine ⟨⟨_,SqL.of hha0⟩,λacc hacc=>?_⟩
  generalize hU:(λj=>qx (qr dn (ja c.rs wy) wr c.ts (yn+j+1)) m)=U at *
  have eU:∀j,qx (qr dn (ja c.rs wy) wr c.ts (yn+j+1)) m=U j:=λj=>congrFun hU j
  have r0:jD H2 out0 (U 0):=by rw [<- eU 0];exact r0
  have hol0:out0.length=(U 0).length:=aK r0
  have hU0:=C.sz 0 () ()
  refine qp (K:=K) (a:=ha0) (xs:=out0) (acc:=acc) (λi σ H3=>∃(x:Option V) (vs:List V),σ=[x]/\H3 acc=some (.lst vs)/\vs.length=i/\cG (λv (u:List Key)=>∃b c,v=V.ref b/\H3 b=some (.tup [.ref c,.bl true])/\H3 c=some (.tup (u.map kV))) vs (((U 0).map yj).take i)/\Ext acc H2 H3) ?_ ?_ ?_ ?_
  ·exact ⟨none,[],rfl,j5,rfl,.nil,Ext.put⟩
  ·rintro i σ H3 hi ⟨x,vs,rfl,h3,hl3,p3,e3⟩
   exact SqL.of (e3 _ _ hha0 (j1 hha0 hacc))
  ·rintro i v σ H3 hv ⟨x,vs,rfl,h3,hl3,p3,e3⟩
   obtain ⟨u,hu,b,rfl,hb⟩:=jD.get r0 hv
   have hi:=(List.getElem?_eq_some_iff.mp hv).1
   have hb3:=e3 _ _ hb (j1 hb hacc)
   walk_at "r"
   refine ⟨by show 2<=sizeLine;decide,λq H4 hq hq4 s4=>?_⟩
   have h4:=s4 _ _ h3
   have nT:∀{a:Addr} {xs ys:List V},H4 a=some (.tup xs)->(upd H4 acc (.lst ys)) a=some (.tup xs):=λh=>by rw [j6 (ji h h4 (by walk_at "z"))];exact h
   refine ⟨_,h4,jg (),_,vs++[.ref q],rfl,j5,by rw [ak,hl3];rfl,?_,λc o hc nc=>by rw [j6 nc];exact s4 _ _ (e3 c o hc nc)⟩
   rw [bF,av,hu]
   exact bL (Paired.mapP p3 λv m ⟨b,c,e1,e2,e3⟩=>⟨b,c,e1,nT (s4 _ _ e2),nT (s4 _ _ e3)⟩) ⟨q,b,rfl,nT hq4,nT (s4 _ _ hb3)⟩
  rintro σ H3 ⟨x,vs,rfl,h3,hl3,p3,e3⟩
  have s3:jn H2 H3:=λc o hc=>e3 c o hc (j1 hc hacc)
  rw [bJ (by rw [af];omega)] at p3
  walk_at "r"
  simp only [gg,aM]
  refine ⟨acc,vs,_,rfl,SqL.of h3,p3,fT _ (λa b h e=>h (Je e)) C.nd,by rw [af];omega,λun H4 hun hun4 s4=>?_⟩
  have f04:=f02.trans (FrM.of_same (s3.trans s4))
  have D4:=D2.fr (FrM.of_same (M:=c.D) (s3.trans s4))
  have hfo4:=s4 _ _ (s3 _ _ hfo2)
  clear e3 p3 h3 s3 s4 D2 hfo2 f02 hacc hd0 hha0 r0
  walk_at "r"
  refine ⟨aC _,λro H5 hro hro5 s5=>?_⟩
  have hroH:H ro=none:=f04.no hro
  walk_at "r"
  refine ⟨_,_,rfl,⟨(),(),(),()⟩,?_⟩
  rw [show ((yn:Int)+((ja c.rs wy).length:Int)-(yn:Int)).toNat=(ja c.rs wy).length by omega]
  generalize hrw:(jW ms (ja c.rs wy) wr c.ts m).drop ((yn:Int)-jp 0 0 ms m).toNat=rows at *
  obtain ⟨q0,hq0⟩:∃q,rows[0]? = some q:=⟨_,aa C.l1⟩
  have hw0:y6 rows=yH ((U 0).length:Int) rows:=by
   unfold y6
   rw [lE,md,hq0]
   show yH q0.2.2.2 rows=_
   rw [(C.row 0 q0 hq0).2.2]
  have l2:=C.l2
  have ndn:∀{kvs:List (List Key×V)} {kvs':List (Key×V)},HO.dT kvs≠.dK kvs':=by intro _ _ z;cases z
  refine qR (λj σ H6=>∃(x10 x11 x12 x13:Option V) (b:Nat) (X:List Q4) (out:List V),σ=[some (.ref sd),some (.int l),some (.int n),some (.int (yn:Int)),some (.int ((ja c.rs wy).length:Int)),some (.int m),some (.ref fo),some (.ref ea),some (.ref un),some (.ref ro),x10,x11,x12,x13]/\H6 ro=some (.lst out)/\qP H6 out X/\X.length<=j/\y6 rows=X++yH (b:Int) (rows.drop j)/\(j<rows.length->b<=(U 0).length/\Und (U 0) (yn:Int) b (U j))/\(∀q∈X,q.2.2.1+q.2.2.2≠0)/\FrM c.D H4 H6) ?_ ?_ ?_
  ·exact ⟨_,_,_,_,(U 0).length,[],[],rfl,hro5,.nil,aC _,hw0,λ_=>⟨aq _,Und.start⟩,(λq hq=>nomatch hq),FrM.of_same s5⟩
  ·rintro j σ H6 hj ⟨x10,x11,x12,x13,b,X,out,rfl,hro6,r6,hX,eX,hU6,hX0,f6⟩
   have S6:=S.frM (f04.trans f6)
   walk_at "r"
   simp only [gg,aM]
   refine kG S6 LF λH7 f67=>?_
   have f7:=f6.trans f67
   have hro7:=f67.at hro6 (by walk_at "w")
   have r7:qP H7 out X:=r6.keep (FrM.keepT f67)
   clear f6 f67 hro6 r6 S6
   have hpl:(yn:Int)+(j:Int)+jc dn ((yn:Int)+(j:Int))-m=(((yn+j:Nat):Int)+jc dn ((yn+j:Nat):Int)-m):=by rw [show ((yn+j:Nat):Int)=(yn:Int)+(j:Int) by omega]
   have on:=C.on j
   have nn:=C.nn j
   walk_at "r"
   refine qC (λhlt=>?_) (λhlt=>?_)
   ·have hlt:=hpl ▸ hlt
    have hjr:=on.mpr hlt
    obtain ⟨hb,hu⟩:=hU6 hjr
    obtain ⟨d,ha,oh,kvs,hds,hd,hv,hha,rh⟩:=D4.get (m:=m) (k:=yn+j) () nn hlt
    rw [eU j] at rh
    have haro:ha≠ro:=j1 hha hro
    have hd:=f7.rd hd
    have hha:=f7.at hha (by walk_at "w")
    have rh:jD H7 oh (U j):=jD.keep rh (FrM.keepT f7)
    have hsz:=C.sz j () ()
    have hol:oh.length=(U j).length:=aK rh
    obtain ⟨q,hq⟩:∃q,rows[j]? = some q:=⟨_,aa hjr⟩
    obtain ⟨q1,q2,q3⟩:=C.row j q hq
    have hcn:=hu.count hb C.lt
    have hun7:=f7.at hun4 (λkvs=>ndn)
    walk_at "r"
    refine ⟨_,_,_,_,rfl,rfl,SqL.of (f7.at hfo4 (by walk_at "w")),qS (v:=V.ref d) () (by rw [show ((yn:Int)+(j:Int)).toNat=yn+j by omega];exact hds),?_⟩
    walk_at "r"
    refine ⟨d,.ref ha,rfl,.inl ⟨_,.inl m,hd,rfl,hv.symm⟩,?_⟩
    walk_at "r"
    refine ⟨⟨_,SqL.of hha⟩,λacc hacc=>?_⟩
    refine qp (K:=K) (a:=ha) (xs:=oh) (acc:=acc) (λi σ H8=>∃(x:Option V) (vs:List V),σ=[x,some (.ref un)]/\H8 acc=some (.lst vs)/\vs.length=(((U j).take i).filter λx=>decide (x∈U 0)).length/\Ext acc H7 H8) ?_ ?_ ?_ ?_
    ·exact ⟨none,[],rfl,j5,rfl,Ext.put⟩
    ·rintro i σ H8 hi ⟨x,vs,rfl,h8,hl8,e8⟩
     exact SqL.of (e8 _ _ hha (j1 hha hacc))
    ·rintro i v σ H8 hv ⟨x,vs,rfl,h8,hl8,e8⟩
     obtain ⟨u,hu,bu,rfl,hbu⟩:=jD.get rh hv
     have etk:(U j).take (i+1)=(U j).take i++[u]:=by rw [bF,hu];rfl
     have hfl:=bN (λx=>decide (x∈U 0)) ((U j).take i)
     rw [aJ] at hfl
     walk_at "r"
     refine ⟨un,_,rfl,qU.t (k:=yj u) (e8 _ _ hun7 (j1 hun7 hacc)) (e8 _ _ hbu (j1 hbu hacc)),?_⟩
     rw [Vi]
     refine ⟨_,rfl,?_⟩
     refine qC (λhle=>?_) (λhle=>?_)
     ·walk_at "r"
      refine ⟨_,h8,jg (),some (.ref bu),vs++[.ref bu],rfl,j5,?_,e8.trans Ext.put⟩
      rw [etk,bK,dO (by rw [decide_eq_true hle]),ak,ak,hl8]
      rfl
     ·refine ⟨some (.ref bu),vs,rfl,h8,?_,e8⟩
      rw [etk,bK,dN (by rw [decide_eq_false hle];exact au),mn,aM]
      exact hl8
    rintro σ H8 ⟨x,vs,rfl,h8,hl8,e8⟩
    have s8:jn H7 H8:=λc o hc=>e8 c o hc (j1 hc hacc)
    rw [bJ (),hcn] at hl8
    have hro8:=s8 _ _ hro7
    have r8:qP H8 out X:=r7.keep (jj.same s8)
    have f8:=f7.trans (FrM.of_same (M:=c.D) s8)
    have hha8:=s8 _ _ hha
    have ed:rows.drop j=q::rows.drop (j+1):=by
     have:=(List.getElem?_eq_some_iff.mp hq).2
     rw [<- this]
     exact bQ hjr
    have hol8:out.length=X.length:=aK r8
    rw [ed] at eX
    have hmin:min (b:Int) q.2.2.2=(vs.length:Int):=by rw [q3,hl8];omega
    have eX:y6 rows=X++((q.1,q.2.1,q.2.2.2-min (b:Int) q.2.2.2,min (b:Int) q.2.2.2)::(if q.2.2.2=0 then [] else yH (min (b:Int) q.2.2.2) (rows.drop (j+1)))):=eX
    rw [hmin,q1,q2,q3] at eX
    walk_at "r"
    refine ⟨acc,vs,rfl,.inl (SqL.of h8),?_⟩
    walk_at "r"
    refine ⟨.inl ⟨rfl,_,SqL.of hro8⟩,?_⟩
    walk_at "r"
    refine ⟨ha,oh,rfl,.inl (SqL.of hha8),?_⟩
    walk_at "r"
    refine ⟨by show 4<=sizeLine;decide,λtq H9 htq htq9 s9=>?_⟩
    refine ⟨_,_,_,rfl,rfl,s9 _ _ hro8,jg (),?_⟩
    have tqr:tq≠ro:=(j1 hro8 htq).symm
    have htq9:H9 tq=some (.tup [.int ((yn:Int)+(j:Int)),.int ((yn:Int)+(j:Int)+jc dn ((yn:Int)+(j:Int))-m),.int ((oh.length:Int)-(vs.length:Int)),.int (vs.length:Int)]):=htq9
    rw [hol,hpl] at htq9
    have r10:qP (upd H9 ro (.lst (out++[.ref tq]))) (out++[.ref tq]) (X++[((yn:Int)+(j:Int),((yn+j:Nat):Int)+jc dn ((yn+j:Nat):Int)-m,((U j).length:Int)-(vs.length:Int),(vs.length:Int))]):=bL (r8.keep λa xs q=>by rw [j6 (ji (s9 _ _ q) (s9 _ _ hro8) (by walk_at "z"))];exact s9 _ _ q) ⟨tq,rfl,by rw [j6 tqr];exact htq9⟩
    have f10:FrM c.D H4 (upd H9 ro (.lst (out++[.ref tq]))):=(f8.trans (FrM.of_same s9)).put hro
    have hha10:(upd H9 ro (.lst (out++[.ref tq]))) ha=some (.lst oh):=by rw [j6 haro];exact s9 _ _ hha8
    walk_at "r"
    refine ⟨ha,oh,rfl,.inl (SqL.of hha10),?_⟩
    walk_at "r"
    refine qC (λhz=>?_) (λhz=>?_)
    ·have hz:((U j).length:Int)=0:=by rw [<- hol];exact V.int.inj hz
     rw [if_pos hz] at eX
     walk_at "r"
     refine ⟨by show 3<=sizeLine;decide,λen H11 hen hen11 s11=>?_⟩
     walk_at "r"
     refine ⟨by show 2<=sizeLine;decide,λt' H12 ht' ht12 s12=>?_⟩
     have s02:=s11.trans s12
     have f12:=f04.trans (f10.trans (FrM.of_same s02))
     have hen11:H11 en=some (.tup [.str "left",.int ((yn:Int)+(j:Int)),.int ((yn:Int)+(j:Int)+jc dn ((yn:Int)+(j:Int))-m)]):=hen11
     rw [hpl] at hen11
     refine k t' ro en _ H12 ((f04.trans (f10.trans (FrM.of_same s11))).no ht') hroH ht12 (s02 _ _ j5) (by rw [eX];exact qP.keep r10 (jj.same s02)) ?_ f12
     rw [eX,Y3 (show ((U j).length:Int)-(vs.length:Int)+(vs.length:Int)=0 by omega)]
     exact s12 _ _ hen11
    ·have hz:¬((U j).length:Int)=0:=λe=>hz (congrArg V.int (by rw [hol];exact e))
     rw [if_neg hz] at eX
     refine ⟨_,_,_,_,vs.length,_,_,rfl,j5,r10,by rw [ak];show X.length+1<=_;omega,by rw [eX,cD];rfl,λh=>⟨(),by have:=C.step j h b hb hu;rw [<- hl8] at this;exact this⟩,λq hq=>?_,f10⟩
     rcases List.mem_append.mp hq with h | h
     ·exact hX0 q h
     ·rw [List.mem_singleton.mp h]
      show ((U j).length:Int)-(vs.length:Int)+(vs.length:Int)≠0
      omega
   ·have hnj:¬j<rows.length:=λz=>hlt (hpl ▸ on.mp z)
    refine ⟨_,_,_,_,b,X,out,rfl,hro7,r7,(),?_,(λz=>absurd z ()),hX0,f7⟩
    rw [eX,cE (),cE ()]
  ·rintro σ H6 ⟨x10,x11,x12,x13,b,X,out,rfl,hro6,r6,hX,eX,hU6,hX0,f6⟩
   rw [cE ()] at eX
   have eX:y6 rows=X:=by rw [eX];exact aM _
   have hXn:X≠[]:=λz=>by
    obtain ⟨q,r,e⟩:∃q r,rows=q::r:=by
     cases h:rows with
     | nil=>have:=C.l1;rw [h] at this;exact absurd this ⋯
     | cons q r=>exact ⟨q,r,rfl⟩
    rw [z,e] at eX
    exact UZ eX
   have hol:out.length=X.length:=aK r6
   have hn0:out≠[]:=λz=>hXn (dU (by rw [<- hol,z];rfl))
   obtain ⟨ini,vl,eov⟩:∃ini vl,out=ini++[vl]:=⟨_,_,(iC hn0).symm⟩
   have hvl:out[ini.length]? = some vl:=by rw [eov,c5 (aq _),oI];rfl
   obtain ⟨ql,hql,bl,rfl,hbl⟩:=Paired.get r6 hvl
   have hbl:H6 bl=some (.tup [.int ql.1,.int ql.2.1,.int ql.2.2.1,.int ql.2.2.2]):=hbl
   have eXl:∃Xi,X=Xi++[ql]:=by
    refine ⟨X.dropLast,?_⟩
    have e1:X.length=ini.length+1:=by rw [<- hol,eov,ak];rfl
    have e2:X.getLast hXn=ql:=by
     rw [List.getLast_eq_getElem]
     have:=(List.getElem?_eq_some_iff.mp hql).2
     simp only [e1,Nat.add_sub_cancel]
     exact this
    rw [<- e2,iC]
   obtain ⟨Xi,eXl⟩:=eXl
   have hq0':=hX0 ql (by rw [eXl];exact aH _ (List.mem_singleton_self _))
   walk_at "r"
   refine ⟨_,_,_,_,rfl,rfl,SqL.of hro6,(by rw [eov];exact yU ini (V.ref bl)),?_⟩
   walk_at "r"
   refine ⟨by show 2<=sizeLine;decide,λen H7 hen hen7 s7=>?_⟩
   walk_at "r"
   refine ⟨by show 2<=sizeLine;decide,λt' H8 ht' ht8 s8=>?_⟩
   have s78:=s7.trans s8
   refine k t' ro en out H8 ((f04.trans (f6.trans (FrM.of_same s7))).no ht') hroH ht8 (s78 _ _ hro6) (by rw [eX];exact qP.keep r6 (jj.same s78)) ?_ (f04.trans (f6.trans (FrM.of_same s78)))
   rw [eX,eXl,V8 hq0']
   exact s8 _ _ hen7
theorem gY {W:List Q4}{i:Nat}{q:Q4}(h:W[i]? = some q):yI (W.take (i+1))=yf (yI (W.take i)) q:=by
 unfold yI
 rw [List.take_succ,h,List.foldl_append]
 rfl
theorem QA {n:Nat}(h:0<n):ixN n (-1)=some (n-1):=by
 unfold ixN
 rw [if_neg ⋯,if_pos ()]
 congr 1
 omega
theorem qd.concat {H:Hp}:∀{xs:List (Int×Int)}{x:Int×Int}{sv:List V},qd H sv (xs++[x])->∃vi b,sv=vi++[V.ref b]/\qd H vi xs/\H b=some (.tup [.int x.1,.int x.2])
 | [],x,_,.cons ⟨b,e,hb⟩ .nil=>⟨[],b,by rw [e];rfl,.nil,hb⟩
 | y::r,x,_,.cons h t=>by
  obtain ⟨vi,b,e,r',hb⟩:=qd.concat t
  exact ⟨_::vi,b,by rw [e];rfl,.cons h r',hb⟩
theorem qd.keep {H H':Hp}{out:List V}{ms:List (Int×Int)}(h:qd H out ms) (k:∀(a:Addr) xs,H a=some (.tup xs)->H' a=some (.tup xs)):qd H' out ms:=Paired.mapP h λ_ _ ⟨b,e,q⟩=>⟨b,e,k _ _ q⟩
noncomputable def kK (C CN CP CY:Addr):Sp:=λvs H Q E=>∃(p:Addr) (g:IceG) (l n y:Int) (sk:List (Int×Addr)) (wr:List (Int×T3)),vs=[.ref p,.int l,.int n,.int y]/\IceAt C H p g/\g.lds.length=g.slopes.length/\g.kvs=sk.map kvA/\zc H sk wr/\1<=g.rows.length/\g.rows.length<=1000 /\
 0<=l/\l<(g.slopes.length:Int)/\0<=n/\n<((g.slopes.getD l.toNat []).length:Int)/\0<=y/\y<=10 ^ 40/\∃ns ms,Y5 g l ns/\(∀q∈ns,0<=q.1)/\(g.slopes.getD l.toNat []).length<=100/\ms.Perm ns/\(ms.map (·.1)).Pairwise (· <= ·) /\
  ∀W,W=y6 ((jW ms (g.slopes.getD l.toNat []) wr g.rows (y+jc ns y-n)).drop (y-jp 0 0 ms (y+jc ns y-n)).toNat)->∀o out H',H o=none->H' o=some (.lst out)->qd H' out (yI W)->jn H H'->Q (.ref o) H'
theorem zm:FnScope ["ice","lane","place","year","stretches","when","where","above","beneath"] ["ice","lane","place","year"] (j8 wF):=by walk_at "s"
theorem YI {f C CN CP CY:Addr}{fd:FuncData}(c_way:CalX P w K mg base 6 "way" ["ice","lane","place","year"] (Zz C CN CP CY))
  (F:Fun K "hidden" "hidden" wF f fd):FnOk P w K mg base (CX1 P w) 7 f fd ["ice","lane","place","year"] (kK C CN CP CY):=by
 refine Fun.okX F zm (λvs H Q E h=>?_) (λcdv A outer s H vs Q E hr h=>?_)
 ·obtain ⟨p,g,l,n,y,sk,wr,rfl,_⟩:=h
  rfl
 ·obtain ⟨p,g,l,n,y,sk,wr,rfl,I,hll,ek,hw,hr1,hr2,l0,l1,n0,n1,y0,y1,ns,ms,hL,hp0,g100,hp,hs,k⟩:=h
  refine ⟨_,(j4 (jt 4 zm.nd (jL j2))
   (j4 (Xv (qt aV rfl (jP K (je c_way.cal (hr.mono ⋯) rfl (j0 (pv 0) (j0 (pv 1) (j0 (pv 2) (j0 (pv 3) j2)))))) (qv (n:=4) K rfl (jm (jb (i:=5) zm.nd rfl (aP rfl)) (jm (jb (i:=6) zm.nd rfl (aP rfl)) (jm (jb (i:=7) zm.nd rfl (aP rfl)) (jm (jb (i:=8) zm.nd rfl (aP rfl)) qw))))) (j4 (jU (jz y8 (pv 7) j7 (jG _)) (j9 QG) jw)
   (j9 (jU (PW.pt (JQ (YK K (pv 4)) (JW (jz y8 (jo (qo K) (jo (jd K) (pv 4) (zX xJ j7) (λ_ _=>rfl)) j7 (λ_ _=>rfl)) (jq qG (pv 5) j7) (jG _))))) (j9 (xG (jS (j0 (jo (qo K) (jo (jd K) (pv 4) (zX xJ j7) (λ_ _=>rfl)) j7 (λ_ _=>rfl)) (j0 (pv 5) j2))) (uU (pv 4) (zX xJ j7) yi))) (j9 (jM (xu K aX aZ b7 jZ (pv 4) (j0 (jS (j0 (pv 5) (j0 (pv 5) j2))) j2)))))))))
   (j9 (jk (pv 4))))),?_⟩
  walk_at "r"
  refine ⟨aC _,λst H1 hst hst1 s1=>?_⟩
  walk_at "r"
  refine ⟨p,g,l,n,y,sk,wr,rfl,I.same s1,hll,ek,hw.keep (jj.same s1),hr1,hr2,(λhb=>absurd hb ()),(λ_ _ hb=>absurd hb ()),λ_ _ _ _=>?_⟩
  refine ⟨ns,ms,hL,hp0,g100,hp,hs,(λH' s' hb=>absurd hb ()),λ_ _ o out H2 ho ho2 r2 s2=>?_⟩
  have k:=k _ rfl
  have hW:(y6 ((jW ms (g.slopes.getD l.toNat []) wr g.rows (y+jc ns y-n)).drop (y-jp 0 0 ms (y+jc ns y-n)).toNat)).length<=100:=by
   have hpos:∀q∈ns,0<=q.1/\0<=q.2:=λq hq=>⟨hp0 q hq,(hL.2.2.2.2.2 q hq).1⟩
   have nd:(ns.map (·.1)).Nodup:=hL.2.2.2.1
   have e0:y+jc ns y-(y+jc ns y-n)=n:=()
   have onm:=(xD hp hs nd hpos (y+jc ns y-n) (g.slopes.getD l.toNat []).length y y0).mp (by rw [e0];exact ⟨n0,n1⟩)
   have hlo:=zq ms (g.slopes.getD l.toNat []) wr g.rows (y+jc ns y-n)
   have spl:=uB hp hs nd hpos (y+jc ns y-n) (g.slopes.getD l.toNat []).length ()
   refine aF (kB _ _) ?_
   rw [d6]
   omega
  generalize y6 ((jW ms (g.slopes.getD l.toNat []) wr g.rows (y+jc ns y-n)).drop (y-jp 0 0 ms (y+jc ns y-n)).toNat)=W at *
  have hol:out.length=W.length:=aK r2
  have hst2:=s2 _ _ hst1
  walk_at "r"
  refine ⟨⟨_,SqL.of ho2⟩,?_⟩
  refine zw (K:=K) (a:=o) (xs:=out) (λi σ H3=>∃(x5 x6 x7 x8:Option V) (sv:List V),σ=[some (.ref p),some (.int l),some (.int n),some (.int y),some (.ref st),x5,x6,x7,x8]/\H3 st=some (.lst sv)/\qd H3 sv (yI (W.take i))/\sv.length<=i/\Ext st H2 H3) ?_ ?_ ?_ ?_
  ·exact ⟨_,_,_,_,[],rfl,hst2,.nil,aq _,λc o hc _=>hc⟩
  ·rintro i σ H3 hi ⟨x5,x6,x7,x8,sv,rfl,h3,r3,l3,e3⟩
   exact SqL.of (e3 _ _ ho2 (j1 hst1 ho).symm)
  ·rintro i v σ H3 hv ⟨x5,x6,x7,x8,sv,rfl,h3,r3,l3,e3⟩
   obtain ⟨q,hq,bq,rfl,hbq⟩:=Paired.get r2 hv
   have hi:i<W.length:=(List.getElem?_eq_some_iff.mp hq).1
   have hbq:H2 bq=some (.tup [.int q.1,.int q.2.1,.int q.2.2.1,.int q.2.2.2]):=hbq
   have nbq:bq≠st:=ji hbq hst2 (by walk_at "z")
   rw [gY hq]
   walk_at "r"
   refine ⟨bq,_,rfl,SqT.of (e3 _ _ hbq nbq),rfl,?_⟩
   refine ⟨_,_,rfl,_,_,rfl,_,_,rfl,_,_,rfl,rfl,?_⟩
   walk_at "r"
   refine qC (λz=>?_) (λz=>?_)
   ·walk_at "r"
    exact ⟨_,_,_,_,sv,rfl,h3,by rw [show yf (yI (W.take i)) q=yI (W.take i) from if_pos (V.int.inj z)];exact r3,eO l3,e3⟩
   ·have z:¬q.2.2.1=0:=λe=>z (congrArg V.int e)
    have ho3:=e3 _ _ ho2 (j1 hst1 ho).symm
    walk_at "r"
    generalize yI (W.take i)=hd at *
    have hsl:sv.length=hd.length:=aK r3
    rcases mz hd with e | ⟨hi',p',e⟩
    ·subst e
     have esv:sv=[]:=dU hsl
     subst esv
     have eh:yf [] q=[(q.1,q.1)]:=by unfold yf;rw [if_neg z];rfl
     refine ⟨false,.inl ⟨_,SqL.of h3,rfl⟩,?_⟩
     walk_at "r"
     refine ⟨.inl ⟨rfl,_,SqL.of h3⟩,?_⟩
     walk_at "r"
     refine ⟨by show 2<=sizeLine;decide,λtq H7 htq htq7 s7=>?_⟩
     refine ⟨_,_,_,rfl,rfl,s7 _ _ h3,jg (by simp),?_⟩
     have tqr:tq≠st:=(j1 h3 htq).symm
     exact ⟨_,_,_,_,[.ref tq],rfl,j5,by rw [eh];exact .cons ⟨tq,rfl,by rw [j6 tqr];exact htq7⟩ .nil,bZ (aC _),λc o hc n=>by rw [j6 n];exact s7 _ _ (e3 c o hc n)⟩
    ·rw [mB] at e
     subst e
     obtain ⟨vi,q9,rfl,ri,hq9⟩:=qd.concat r3
     have eh:yf (hi'++[p']) q=if p'.2=q.1-1 then hi'++[(p'.1,q.1)] else hi'++[p']++[(q.1,q.1)]:=by
      unfold yf
      rw [if_neg z,mX,mY]
     rw [eh]
     have l3':vi.length+1<=i:=by rw [ak] at l3;exact l3
     refine ⟨true,.inl ⟨_,SqL.of h3,by simp⟩,?_⟩
     walk_at "r"
     refine ⟨_,_,_,_,rfl,rfl,SqL.of h3,yU _ _,?_⟩
     refine ⟨_,_,_,_,rfl,rfl,SqT.of hq9,rfl,?_⟩
     walk_at "r"
     refine qC (λze=>?_) (λze=>?_)
     ·rw [if_pos (V.int.inj ze)]
      walk_at "r"
      refine ⟨_,_,_,_,rfl,rfl,SqL.of h3,yU _ _,?_⟩
      refine ⟨_,_,_,_,rfl,rfl,SqT.of hq9,rfl,?_⟩
      walk_at "r"
      refine ⟨by show 2<=sizeLine;decide,λq5 H5 hq5 hq55 s5=>?_⟩
      walk_at "r"
      refine ⟨st,_,_,(vi++[V.ref q9]).length-1,rfl,rfl,s5 _ _ h3,QA (by simp),?_⟩
      have lq:st≠q5:=j1 h3 hq5
      rw [show (vi++[V.ref q9]).set ((vi++[V.ref q9]).length-1) (.ref q5)=vi++[.ref q5] by simp]
      exact ⟨_,_,_,_,_,rfl,j5,bL (ri.keep λa xs hh=>by rw [j6 (ji (s5 _ _ hh) (s5 _ _ h3) (by walk_at "z"))];exact s5 _ _ hh) ⟨q5,rfl,by rw [j6 lq.symm];exact hq55⟩,by rw [ak];exact eO l3',λc o hc n=>by rw [j6 n];exact s5 _ _ (e3 c o hc n)⟩
     ·rw [if_neg λe=>ze (congrArg V.int e)]
      walk_at "r"
      refine ⟨.inl ⟨rfl,_,SqL.of h3⟩,?_⟩
      walk_at "r"
      refine ⟨by show 2<=sizeLine;decide,λtq H7 htq htq7 s7=>?_⟩
      refine ⟨_,_,_,rfl,rfl,s7 _ _ h3,jg (by rw [ak];show vi.length+1<=_;omega),?_⟩
      have tqr:tq≠st:=(j1 h3 htq).symm
      exact ⟨_,_,_,_,_,rfl,j5,bL (qd.keep r3 λa xs hh=>by rw [j6 (ji (s7 _ _ hh) (s7 _ _ h3) (by walk_at "z"))];exact s7 _ _ hh) ⟨tq,rfl,by rw [j6 tqr];exact htq7⟩,by rw [ak,ak];exact bZ l3',λc o hc n=>by rw [j6 n];exact s7 _ _ (e3 c o hc n)⟩
  ·rintro σ H3 ⟨x5,x6,x7,x8,sv,rfl,h3,r3,l3,e3⟩
   rw [bJ ()] at r3
   walk_at "r"
   exact k st sv H3 hst h3 r3 (λc o hc=>e3 c o (s2 _ _ (s1 _ _ hc)) (j1 hc hst))
theorem vN:∀(rows:List Q4) {b:Int},∀q∈yH b rows,0<=q.2.2.1
 | [],_,q,h=>by cases h
 | x::r,b,q,h=>by
  unfold yH at h
  rcases List.mem_cons.mp h with e | e
  ·subst e
   show 0<=x.2.2.2-min b x.2.2.2
   omega
  ·by_cases z:x.2.2.2=0
   ·rw [if_pos z] at e;cases e
   ·rw [if_neg z] at e
    exact vN r q e
noncomputable def Qc:Sp:=λvs H Q _=>∃(ra:Addr) (out:List V) (W:List Q4),vs=[.ref ra]/\H ra=some (.lst out)/\qP H out W/\W.length<=100/\(∀q∈W,0<=q.2.2.1) /\
 ∀o out2 H',H o=none->H' o=some (.lst out2)->qd H' out2 (yI W)->jn H H'->Q (.ref o) H'
theorem qQ:FnScope ["_law_rows","_law_found","_law_when","_law_spot_here","_law_above","_law_beneath"] ["_law_rows"] (j8 yA):=by walk_at "s"
theorem gz {f:Addr}{fd:FuncData}(nb:Nb2 mg)
  (F:Fun K "_law_hidden" "_law_hidden" yA f fd):FnOk P w K mg base CX0 1 f fd ["_law_rows"] Qc:=by
 refine F.ok qQ (λvs H Q E h=>?_) (λcdv A outer s H vs Q E hr h=>?_)
 ·obtain ⟨ra,out,W,rfl,_⟩:=h
  rfl
 ·obtain ⟨ra,out,W,rfl,ho,r0,hW,hab,k⟩:=h
  refine ⟨_,(j4 (jt 1 qQ.nd (jL j2))
   (j4 (qt aV rfl (jP K (pv 0)) (qv (n:=4) K rfl (jm (jb (i:=2) qQ.nd rfl (aP rfl)) (jm (jb (i:=3) qQ.nd rfl (aP rfl)) (jm (jb (i:=4) qQ.nd rfl (aP rfl)) (jm (jb (i:=5) qQ.nd rfl (aP rfl)) qw))))) (j9 (jU (PW.pt (JQ (jz ZD (pv 4) j7 (jG _)) (JQ (jz ZD (jf (jh K) rfl nb.b_len aT (j0 (pv 1) j2)) j7 (jG _)) (JW (jz y8 (jq jN (jo (qo K) (jo (jd K) (pv 1) (zX xJ j7) (λ_ _=>rfl)) j7 (λ_ _=>rfl)) j7) (pv 2) (jG _)))))) (j9 (xG (jS (j0 (jo (qo K) (jo (jd K) (pv 1) (zX xJ j7) (λ_ _=>rfl)) j7 (λ_ _=>rfl)) (j0 (pv 2) j2))) (uU (pv 1) (zX xJ j7) yi))) (j9 (jU (jz ZD (pv 4) j7 (jG _)) (j9 (jM (xu K aX aZ b7 jZ (pv 1) (j0 (jS (j0 (pv 2) (j0 (pv 2) j2))) j2)))) jw)))))
   (j9 (jk (pv 1))))),?_⟩
  walk_at "r"
  refine ⟨aC _,λst H2 hst hst2 s2=>?_⟩
  have ho2:=s2 _ _ ho
  have r2:qP H2 out W:=r0.keep (jj.same s2)
  have rast:ra≠st:=j1 ho hst
  have hol:out.length=W.length:=aK r2
  walk_at "r"
  refine ⟨⟨_,SqL.of ho2⟩,?_⟩
  refine zw (K:=K) (a:=ra) (xs:=out) (λi σ H3=>∃(x5 x6 x7 x8:Option V) (sv:List V),σ=[some (.ref ra),some (.ref st),x5,x6,x7,x8]/\H3 st=some (.lst sv)/\qd H3 sv (yI (W.take i))/\sv.length<=i/\Ext st H2 H3) ?_ ?_ ?_ ?_
  ·exact ⟨_,_,_,_,[],rfl,hst2,.nil,aq _,λc o hc _=>hc⟩
  ·rintro i σ H3 hi ⟨x5,x6,x7,x8,sv,rfl,h3,r3,l3,e3⟩
   exact SqL.of (e3 _ _ ho2 rast)
  ·rintro i v σ H3 hv ⟨x5,x6,x7,x8,sv,rfl,h3,r3,l3,e3⟩
   obtain ⟨q,hq,bq,rfl,hbq⟩:=Paired.get r2 hv
   have hi:i<W.length:=(List.getElem?_eq_some_iff.mp hq).1
   have hbq:H2 bq=some (.tup [.int q.1,.int q.2.1,.int q.2.2.1,.int q.2.2.2]):=hbq
   have nbq:bq≠st:=ji hbq hst2 (by walk_at "z")
   have q0:=hab q (ax hq)
   rw [gY hq]
   walk_at "r"
   refine ⟨bq,_,rfl,SqT.of (e3 _ _ hbq nbq),rfl,?_⟩
   refine ⟨_,_,rfl,_,_,rfl,_,_,rfl,_,_,rfl,rfl,?_⟩
   walk_at "r"
   generalize yI (W.take i)=hd at *
   have hsl:sv.length=hd.length:=aK r3
   refine qC (λz1=>?_) (λz1=>?_)
   ·have z:¬q.2.2.1=0:=()
    walk_at "r"
    refine ⟨st,sv,rfl,.inl (SqL.of h3),?_⟩
    walk_at "r"
    have app:∀{H7:Hp} {tq:Addr},H3 tq=none->H7 tq=some (.tup [.int q.1,.int q.1])->jn H3 H7->yf hd q=hd++[(q.1,q.1)]->qd (upd H7 st (.lst (sv++[.ref tq]))) (sv++[.ref tq]) (yf hd q)/\Ext st H2 (upd H7 st (.lst (sv++[.ref tq]))):=λ{H7 tq} htq htq7 s7 eh=>by
     have tqr:tq≠st:=(j1 h3 htq).symm
     rw [eh]
     exact ⟨bL (qd.keep r3 λa xs hh=>by rw [j6 (ji (s7 _ _ hh) (s7 _ _ h3) (by walk_at "z"))];exact s7 _ _ hh) ⟨tq,rfl,by rw [j6 tqr];exact htq7⟩,λc o hc n=>by rw [j6 n];exact s7 _ _ (e3 c o hc n)⟩
    refine qC (λz2=>?_) (λz2=>?_)
    ·rcases mz hd with e | ⟨hi',p',e⟩
     ·rw [e] at hsl
      rw [hsl] at z2
      exact absurd z2 ⋯
     rw [mB] at e
     obtain ⟨vi,q9,esv,ri,hq9⟩:=qd.concat (e ▸ r3)
     have eh:yf hd q=if p'.2=q.1-1 then hi'++[(p'.1,q.1)] else hd++[(q.1,q.1)]:=by
      rw [e]
      unfold yf
      rw [if_neg z,mX,mY]
     have hat:atI sv (-1)=some (V.ref q9):=by rw [esv];exact yU vi (V.ref q9)
     have l3':vi.length+1<=i:=by rw [esv,ak] at l3;exact l3
     walk_at "r"
     refine ⟨_,_,_,_,rfl,rfl,SqL.of h3,hat,?_⟩
     walk_at "r"
     refine qC (λze=>?_) (λze=>?_)
     ·have ze:p'.2+1=q.1:=V.int.inj ze
      rw [if_pos ()] at eh
      walk_at "r"
      refine ⟨_,_,_,_,rfl,rfl,SqL.of h3,hat,?_⟩
      walk_at "r"
      refine ⟨by show 2<=sizeLine;decide,λq5 H5 hq5 hq55 s5=>?_⟩
      walk_at "r"
      refine ⟨st,_,_,sv.length-1,rfl,rfl,s5 _ _ h3,QA (),?_⟩
      have lq:st≠q5:=j1 h3 hq5
      rw [show sv.set (sv.length-1) (.ref q5)=vi++[.ref q5] by rw [esv];simp,eh]
      exact ⟨_,_,_,_,_,rfl,j5,bL (ri.keep λa xs hh=>by rw [j6 (ji (s5 _ _ hh) (s5 _ _ h3) (by walk_at "z"))];exact s5 _ _ hh) ⟨q5,rfl,by rw [j6 lq.symm];exact hq55⟩,by rw [ak];exact eO l3',λc o hc n=>by rw [j6 n];exact s5 _ _ (e3 c o hc n)⟩
     ·rw [if_neg λe=>ze (congrArg V.int ())] at eh
      walk_at "r"
      refine qC (λ_=>?_) (λzz=>absurd z1 zz)
      walk_at "r"
      refine ⟨.inl ⟨rfl,_,SqL.of h3⟩,?_⟩
      walk_at "r"
      refine ⟨by show 2<=sizeLine;decide,λtq H7 htq htq7 s7=>?_⟩
      refine ⟨_,_,_,rfl,rfl,s7 _ _ h3,jg (),?_⟩
      obtain ⟨a1,a2⟩:=app htq htq7 s7 eh
      exact ⟨_,_,_,_,_,rfl,j5,a1,by rw [ak];exact bZ l3,a2⟩
    ·have e:hd=[]:=dU ()
     have eh:yf hd q=hd++[(q.1,q.1)]:=by rw [e];unfold yf;rw [if_neg z];rfl
     walk_at "r"
     refine qC (λ_=>?_) (λzz=>absurd z1 zz)
     walk_at "r"
     refine ⟨.inl ⟨rfl,_,SqL.of h3⟩,?_⟩
     walk_at "r"
     refine ⟨by show 2<=sizeLine;decide,λtq H7 htq htq7 s7=>?_⟩
     refine ⟨_,_,_,rfl,rfl,s7 _ _ h3,jg (),?_⟩
     obtain ⟨a1,a2⟩:=app htq htq7 s7 eh
     exact ⟨_,_,_,_,_,rfl,j5,a1,by rw [ak];exact bZ l3,a2⟩
   ·have eh:yf hd q=hd:=if_pos ()
    walk_at "r"
    refine qC (λzz=>absurd zz z1) (λ_=>?_)
    rw [eh]
    exact ⟨_,_,_,_,sv,rfl,h3,r3,eO l3,e3⟩
  ·rintro σ H3 ⟨x5,x6,x7,x8,sv,rfl,h3,r3,l3,e3⟩
   rw [bJ ()] at r3
   walk_at "r"
   exact k st sv H3 hst h3 r3 (λc o hc=>e3 c o (s2 _ _ hc) (j1 hc hst))
noncomputable def Vl (q:Int×Int):PyData:=.tuple [.int q.1,.int q.2]
theorem qd.dat {H:Hp}:∀{out:List V}{qs:List (Int×Int)},qd H out qs->DatL H out (qs.map Vl)
 | _,_,.nil=>.nil
 | _,_,.cons ⟨b,e,h⟩ r=>by
  subst e
  exact .cons (.tup h (.cons (.int _) (.cons (.int _) .nil))) (qd.dat r)
theorem XI (qs:List (Int×Int)) (h:qs.length<=1000):zy 3 (.list (qs.map Vl))=true:=by
 refine Yo (by rw [af];exact h) ?_
 rw [bI]
 intro x hx
 obtain ⟨q,_,rfl⟩:=List.mem_map.mp hx
 rfl
theorem YV (st:List (Int×Int)) (q:Q4):(yf st q).length<=st.length+1:=by
 unfold yf
 split
 ·omega
 ·cases h:st.getLast? with
  | none =>
   show (st++[(q.1,q.1)]).length<=_
   rw [ak]
   exact aq _
  | some p =>
   show (if p.2=q.1-1 then st.dropLast++[(p.1,q.1)] else st++[(q.1,q.1)]).length<=_
   split
   ·rw [ak,mJ]
    show st.length-1+1<=_
    omega
   ·rw [ak]
    exact aq _
theorem Qh (W:List Q4):(yI W).length<=W.length:=by
 have:∀(W:List Q4) (st:List (Int×Int)),(W.foldl yf st).length<=st.length+W.length:=by
  intro W
  induction W with
  | nil=>intro st;exact aq _
  | cons q r ih =>
   intro st
   have h1:=ih (yf st q)
   have h2:=YV st q
   show (r.foldl yf (yf st q)).length<=st.length+(r.length+1)
   omega
 have:=this W []
 unfold yI
 rw [ml] at this
 omega
theorem xL:FnScope ["_law_script","_law_box_here","_law_scene_here","_law_ice","_law_turn","_law_lane","_law_place","_law_year_here","_law_due","_law_told"] ["_law_script"] (j8 uA):=by walk_at "s"
theorem Gn {f C CN CP CY Pt:Addr}{fd:FuncData}(nb:Nb2 mg)
  (c_law_box:Cal P w K mg base 1 "_law_box" ["_law_script"] (VD K)) (c_law_take:Cal P w K mg base 2 "_law_take" ["_law_box_here","_law_size"] xP) (c_law_scene:Cal P w K mg base 5 "_law_scene" ["_law_box_here"] ZC) (c_law_made:Cal P w K mg base 10 "_law_made" ["_law_scene_here"] (Vh C Pt))
  (c_law_spot:Cal P w K mg base 3 "_law_spot" ["_law_box_here","_law_scene_here"] VS) (c_law_stone_way:Cal P w K mg base 5 "_law_stone_way" ["_law_scene_here","_law_lane","_law_place","_law_year_here"] kN)
  (c_law_hidden:Cal P w K mg base 1 "_law_hidden" ["_law_rows"] Qc) (c_law_far:Cal P w K mg base 3 "_law_far" ["_law_box_here"] Wh) (c_hidden:CalX P w K mg base 7 "hidden" ["ice","lane","place","year"] (kK C CN CP CY))
  (c_law_alike:Cal P w K mg base 4 "_law_alike" ["_law_found","_law_due"] (Ud 3)) (c_way:CalX P w K mg base 6 "way" ["ice","lane","place","year"] (Zz C CN CP CY))
  (F:Fun K "law" "law" uA f fd):FnOk P w K mg base CX0 11 f fd ["_law_script"] (Xr K Pt):=by
 refine F.ok xL (λvs H Q E h=>?_) (λcdv A outer s H vs Q E hr h=>?_)
 ·obtain ⟨a,ns,rfl,_⟩:=h
  rfl
 ·obtain ⟨a,ns,rfl,hS,h63,hPt,k⟩:=h
  have T0:qK H Pt:=.inl hPt
  refine ⟨_,(j4 (jt 1 xL.nd (je c_law_box (hr.mono ⋯) rfl (j0 (pv 0) j2)))
   (j4 (jt 2 xL.nd (je c_law_scene (hr.mono ⋯) rfl (j0 (pv 1) j2)))
   (j4 (jt 3 xL.nd (je c_law_made (hr.mono ⋯) rfl (j0 (pv 2) j2)))
   (j4 (qt aV rfl (qh rfl nb.b_range (j0 j7 j2)) (jb (i:=4) xL.nd rfl (aP rfl)) (j4 (xG (je c_law_spot (hr.mono ⋯) rfl (j0 (pv 1) (j0 (pv 2) j2))) (qv (n:=2) K rfl (jm (jb (i:=5) xL.nd rfl (aP rfl)) (jm (jb (i:=6) xL.nd rfl (aP rfl)) qw))))
   (j4 (jt 7 xL.nd (je c_law_take (hr.mono ⋯) rfl (j0 (pv 1) (j0 j7 j2))))
   (j4 (jt 8 xL.nd (je c_law_hidden (hr.mono ⋯) rfl (j0 (jo (qo K) (je c_law_stone_way (hr.mono ⋯) rfl (j0 (pv 2) (j0 (pv 5) (j0 (pv 6) (j0 (pv 7) j2))))) j7 (λ_ _=>rfl)) j2)))
   (j4 (jt 9 xL.nd (je c_hidden.cal (hr.mono ⋯) rfl (j0 (pv 3) (j0 (pv 5) (j0 (pv 6) (j0 (pv 7) j2))))))
   (j4 (jU (xo (zT (je c_law_alike (hr.mono ⋯) rfl (j0 (pv 9) (j0 (pv 8) j2))))) (j9 (jk wV)) jw)
   (j4 (jM (xu K aX aZ b7 jZ (pv 9) (j0 (jS (j0 j7 (j0 j7 j2))) j2)))
   (j9 (jU (xo (zT (je c_law_alike (hr.mono ⋯) rfl (j0 (je c_hidden.cal (hr.mono ⋯) rfl (j0 (pv 3) (j0 (pv 5) (j0 (pv 6) (j0 (pv 7) j2))))) (j0 (pv 8) j2))))) (j9 (jk wV)) jw)))))))))
   (j4 (xG (je c_law_spot (hr.mono ⋯) rfl (j0 (pv 1) (j0 (pv 2) j2))) (qv (n:=2) K rfl (jm (jb (i:=5) xL.nd rfl (aP rfl)) (jm (jb (i:=6) xL.nd rfl (aP rfl)) qw))))
   (j4 (jt 7 xL.nd (je c_law_far (hr.mono ⋯) rfl (j0 (pv 1) j2)))
   (j9 (jk (je c_law_alike (hr.mono ⋯) rfl (j0 (je c_hidden.cal (hr.mono ⋯) rfl (j0 (pv 3) (j0 (pv 5) (j0 (pv 6) (j0 (pv 7) j2))))) (j0 (je c_law_hidden (hr.mono ⋯) rfl (j0 (je c_way.cal (hr.mono ⋯) rfl (j0 (pv 3) (j0 (pv 5) (j0 (pv 6) (j0 (pv 7) j2))))) j2)) j2))))))))))),?_⟩
  walk_at "r"
  refine ⟨a,ns,rfl,hS,λL b H1 hb B1 s1=>?_⟩
  have T1:=T0.same s1
  walk_at "r"
  refine ⟨L,b,rfl,B1,λsd H2 c B2 X2 S2 O=>?_⟩
  have T2:=UQ B1 X2 T1
  walk_at "r"
  refine ⟨sd,b,c,rfl,S2,O,T2,λp H3 g I3 F3 R3 T3 er et es ek el ld ny nd=>?_⟩
  have W3:Lw C L b sd p c g H2 H3:=Lw.start S2 O B2 T2 I3 F3 R3
  have kk:Lk c g:=⟨er,et,es,ek,el,ld,ny,nd⟩
  clear I3 R3 T3 er et es ek el ld ny nd
  have hw1:1<=c.ws.length:=by
   rw [O.ro.length]
   exact J6 (qk O.gr.ok) O.l1
  have hw6:c.ws.length<=6:=by rw [O.ro.length];exact O.gr.heads
  have hg30:∀w∈c.ws,1<=(ja c.rs w).length/\(ja c.rs w).length<=30:=λw hw=>⟨gf O.gr O.ro hw,(wg (O.gr.good O.l1 O.l8)).2.2.2 c.ws O.ro w hw⟩
  have hll:g.lds.length=g.slopes.length:=by rw [kk.ll,O.ldl,kk.sl,af]
  have t1:=O.t1
  have t2:=O.t2
  obtain ⟨wr,hwr⟩:=zc.of W3.S.sk
  have wgood:=hwr.good W3.S.sk
  have sgood:=λy=>YY wgood O.tg t1 y
  have wayC:∀(H3:Hp) (l n y:Int) (wy:List Int) (da:Addr) (dn ms:List (Int×Int)) (Q':VK),Lw C L b sd p c g H2 H3->zc H3 c.sk wr->LaneF c g l wy da dn->ms.Perm dn->(ms.map (·.1)).Pairwise (· <= ·)->0<=n->n<((ja c.rs wy).length:Int)->0<=y->y<=10 ^ 40->(∀o out H4,H3 o=none->H4 o=some (.lst out)->qP H4 out (y6 ((jW ms (ja c.rs wy) wr c.ts (y+jc dn y-n)).drop (y-jp 0 0 ms (y+jc dn y-n)).toNat))->jn H3 H4->Q' (.ref o) H4)->Zz C CN CP CY [.ref p,.int l,.int n,.int y] H3 Q' E0:=λH3 l n y wy da dn ms Q' W' hw' LF hp hs n0 n1 y0 y1 kq=>by
   have g30:=LF.g30
   have l0:=LF.l0
   have l1:=LF.l1
   refine ⟨p,g,l,n,y,c.sk,wr,rfl,W'.I,hll,kk.kv,hw',by rw [kk.rows];exact t1,by rw [kk.rows];omega,(λhb=>absurd hb ()),(λ_ _ hb=>absurd hb (by rw [LF.sl];omega)),λ_ _ _ _=>⟨dn,ms,LF.at_,(λq hq=>(LF.pos q hq).1),by rw [LF.sl];omega,hp,hs,(λH' _ hb=>absurd hb ()),λ_ _=>?_⟩⟩
   rw [LF.sl,kk.rows]
   exact kq
  have hidC:∀(H3:Hp) (l n y:Int) (wy:List Int) (da:Addr) (dn ms:List (Int×Int)) (Q':VK),Lw C L b sd p c g H2 H3->zc H3 c.sk wr->LaneF c g l wy da dn->ms.Perm dn->(ms.map (·.1)).Pairwise (· <= ·)->0<=n->n<((ja c.rs wy).length:Int)->0<=y->y<=10 ^ 40->(∀o out H4,H3 o=none->H4 o=some (.lst out)->qd H4 out (yI (y6 ((jW ms (ja c.rs wy) wr c.ts (y+jc dn y-n)).drop (y-jp 0 0 ms (y+jc dn y-n)).toNat)))->jn H3 H4->Q' (.ref o) H4)->kK C CN CP CY [.ref p,.int l,.int n,.int y] H3 Q' E0:=λH3 l n y wy da dn ms Q' W' hw' LF hp hs n0 n1 y0 y1 kq=>by
   have g30:=LF.g30
   refine ⟨p,g,l,n,y,c.sk,wr,rfl,W'.I,hll,kk.kv,hw',by rw [kk.rows];exact t1,by rw [kk.rows];omega,LF.l0,LF.l1,n0,by rw [LF.sl];exact n1,y0,y1,dn,ms,LF.at_,(λq hq=>(LF.pos q hq).1),by rw [LF.sl];omega,hp,hs,λW eW=>?_⟩
   rw [eW,LF.sl,kk.rows]
   exact kq
  have hW30:∀(l n y:Int) (wy:List Int) (da:Addr) (dn ms:List (Int×Int)),LaneF c g l wy da dn->ms.Perm dn->(ms.map (·.1)).Pairwise (· <= ·)->0<=n->n<((ja c.rs wy).length:Int)->0<=y->(y6 ((jW ms (ja c.rs wy) wr c.ts (y+jc dn y-n)).drop (y-jp 0 0 ms (y+jc dn y-n)).toNat)).length<=100:=λl n y wy da dn ms LF hp hs n0 n1 y0=>by
   have g30:=LF.g30
   have e0:y+jc dn y-(y+jc dn y-n)=n:=()
   have onm:=(xD hp hs LF.nd LF.pos (y+jc dn y-n) ((ja c.rs wy).length:Int) y y0).mp (by rw [e0];exact ⟨n0,n1⟩)
   have spl:=uB hp hs LF.nd LF.pos (y+jc dn y-n) ((ja c.rs wy).length:Int) ()
   have hlo:=zq ms (ja c.rs wy) wr c.ts (y+jc dn y-n)
   refine aF (kB _ _) ?_
   rw [d6]
   omega
  walk_at "r"
  refine ⟨⋯,⋯,?_⟩
  refine qR (λi σ H4=>∃v4 v5 v6 v7 v8 v9:Option V,σ=[some (.ref a),some (.ref b),some (.ref sd),some (.ref p),v4,v5,v6,v7,v8,v9]/\Lw C L b sd p c g H2 H4/\zc H4 c.sk wr) ?_ ?_ ?_
  ·exact ⟨_,_,_,_,_,_,rfl,W3,hwr⟩
  ·clear W3 hwr
   rintro i σ H4 hi ⟨v4,v5,v6,v7,v8,v9,rfl,W4,hw4⟩
   walk_at "r"
   refine ⟨L,b,sd,c,rfl,W4.B,W4.S,O,hw1,hw6,hg30,λln n wy t H5 ln0 ln1 hwy n0 n1 B5 X5 ht ht5=>?_⟩
   have W5:=W4.take B5 X5
   have hw5:=hw4.keep (zk W4.B X5)
   clear W4 hw4
   obtain ⟨wy',da,dn,LF⟩:=kk.lane O ln0 ln1
   obtain rfl:wy'=wy:=aR (LF.way.symm.trans hwy)
   obtain ⟨ms,hp,hs⟩:=vz dn
   have g30:=LF.g30
   walk_at "r"
   refine ⟨t,_,rfl,SqT.of ht5,rfl,?_⟩
   refine ⟨_,_,rfl,_,_,rfl,rfl,?_⟩
   walk_at "r"
   refine ⟨L,b,_,rfl,W5.B,⟨⋯,⋯⟩,λy H6 y0 y1 B6 X6=>?_⟩
   have W6:=W5.take B6 X6
   have hw6:=hw5.keep (zk W5.B X6)
   have y40:y<=10 ^ 40:=oR (show y<=60 by omega) ⋯
   clear W5 hw5
   have hW:=hW30 ln n y wy' da dn ms LF hp hs n0 n1 y0
   have hidC':=λH3 Q' W' hw'=>hidC H3 ln n y wy' da dn ms Q' W' hw' LF hp hs n0 n1 y0 y40
   have hab:∀q∈y6 ((jW ms (ja c.rs wy') wr c.ts (y+jc dn y-n)).drop (y-jp 0 0 ms (y+jc dn y-n)).toNat),0<=q.2.2.1:=vN _
   walk_at "r"
   refine ⟨sd,c,g,ln,n,y,wy',da,dn,ms,wr,rfl,W6.S,LF,hp,hs,hw6,t1,(),sgood,n0,n1,y0,(),λt' ro en out H7 ht' hro ht7 hro7 r7 hen7 f7=>?_⟩
   have W7:=W6.fr f7
   have hw7:=hw6.keep (FrM.keepT f7)
   clear W6 hw6 hen7
   generalize y6 ((jW ms (ja c.rs wy') wr c.ts (y+jc dn y-n)).drop (y-jp 0 0 ms (y+jc dn y-n)).toNat)=W at *
   have hdl:=Qh W
   walk_at "r"
   refine ⟨ro,out,W,rfl,hro7,r7,hW,hab,λdu oud H8 hdu hdu8 rd8 s8=>?_⟩
   have W8:=W7.same s8
   have hw8:=hw7.keep (jj.same s8)
   clear W7 hw7
   walk_at "r"
   simp only [gg,aM]
   refine hidC' H8 _ W8 hw8 λo1 out1 H9 ho1 ho9 r9 s9=>?_
   walk_at "r"
   refine ⟨_,_,.list ((yI W).map Vl),rfl,.lst ho9 (qd.dat r9),.lst (s9 _ _ hdu8) (qd.dat (qd.keep rd8 (jj.same s9))),XI _ (),λH10 s10=>?_⟩
   walk_at "r"
   refine ⟨.inl ⟨rfl,_,SqL.of (s10 _ _ ho9)⟩,?_⟩
   walk_at "r"
   refine ⟨by show 2<=sizeLine;decide,λtq H11 htq htq11 s11=>?_⟩
   walk_at "r"
   have hol1:out1.length=(yI W).length:=aK r9
   refine ⟨o1,out1,_,rfl,rfl,s11 _ _ (s10 _ _ ho9),jg (),?_⟩
   have f12:FrM c.D H8 (upd H11 o1 (.lst (out1++[.ref tq]))):=(FrM.of_same (s9.trans (s10.trans s11))).put ho1
   generalize upd H11 o1 (.lst (out1++[.ref tq]))=H12 at *
   have W12:=W8.fr f12
   have hw12:=hw8.keep (FrM.keepT f12)
   have hdu12:=f12.at hdu8 (by walk_at "w")
   have rd12:=qd.keep rd8 (FrM.keepT f12)
   walk_at "r"
   simp only [gg,aM]
   refine hidC' H12 _ W12 hw12 λo2 out2 H13 ho2 ho13 r13 s13=>?_
   walk_at "r"
   refine ⟨_,_,.list ((yI W).map Vl),rfl,.lst ho13 (qd.dat r13),.lst (s13 _ _ hdu12) (qd.dat (qd.keep rd12 (jj.same s13))),XI _ (),λH14 s14=>?_⟩
   walk_at "r"
   exact ⟨_,_,_,_,_,_,rfl,W12.same (s13.trans s14),hw12.keep (jj.same (s13.trans s14))⟩
  ·rintro σ H4 ⟨v4,v5,v6,v7,v8,v9,rfl,W4,hw4⟩
   walk_at "r"
   refine ⟨L,b,sd,c,rfl,W4.B,W4.S,O,hw1,hw6,hg30,λln n wy t H5 ln0 ln1 hwy n0 n1 B5 X5 ht ht5=>?_⟩
   have W5:=W4.take B5 X5
   have hw5:=hw4.keep (zk W4.B X5)
   clear W4 hw4
   obtain ⟨wy',da,dn,LF⟩:=kk.lane O ln0 ln1
   obtain rfl:wy'=wy:=aR (LF.way.symm.trans hwy)
   obtain ⟨ms,hp,hs⟩:=vz dn
   walk_at "r"
   refine ⟨t,_,rfl,SqT.of ht5,rfl,?_⟩
   refine ⟨_,_,rfl,_,_,rfl,rfl,?_⟩
   walk_at "r"
   refine ⟨L,b,rfl,W5.B,λy H6 y0 y1 B6 X6=>?_⟩
   have W6:=W5.take B6 X6
   have hw6:=hw5.keep (zk W5.B X6)
   have y40:y<=10 ^ 40:=()
   clear W5 hw5
   have hW:=hW30 ln n y wy' da dn ms LF hp hs n0 n1 y0
   have hdl:=Qh (y6 ((jW ms (ja c.rs wy') wr c.ts (y+jc dn y-n)).drop (y-jp 0 0 ms (y+jc dn y-n)).toNat))
   walk_at "r"
   simp only [gg,aM]
   refine hidC H6 ln n y wy' da dn ms _ W6 hw6 LF hp hs n0 n1 y0 y40 λo1 out1 H7 ho1 ho7 r7 s7=>?_
   walk_at "r"
   simp only [gg,aM]
   refine wayC H7 ln n y wy' da dn ms _ (W6.same s7) (hw6.keep (jj.same s7)) LF hp hs n0 n1 y0 y40 λo2 out2 H8 ho2 ho8 r8 s8=>?_
   walk_at "r"
   refine ⟨o2,out2,_,rfl,ho8,r8,hW,vN _,λo3 out3 H9 ho3 ho9 r9 s9=>?_⟩
   have s79:=s8.trans s9
   walk_at "r"
   refine ⟨_,_,.list ((yI (y6 ((jW ms (ja c.rs wy') wr c.ts (y+jc dn y-n)).drop (y-jp 0 0 ms (y+jc dn y-n)).toNat))).map Vl),rfl,.lst (s79 _ _ ho7) (qd.dat (qd.keep r7 (jj.same s79))),.lst ho9 (qd.dat r9),XI _ (),λH10 s10=>?_⟩
   walk_at "r"
   exact k H10
end
local macro_rules | `(tactic| walk_at "1")=>`(tactic| exact fun _ _ _ _ _ _ _ hl=>bnd1 hl fun _=>rfl)
local macro_rules | `(tactic| walk_at "2")=>`(tactic| exact fun _ _ _ _ _ _ _ hl=>bnd2 hl fun _ _=>rfl)
local macro_rules | `(tactic| walk_at "3")=>`(tactic| exact fun _ _ _ _ _ _ _ hl=>bnd3 hl fun _ _ _=>rfl)
local macro_rules | `(tactic| walk_at "4")=>`(tactic| exact fun _ _ _ _ _ _ _ hl=>bnd4 hl fun _ _ _ _=>rfl)
local macro_rules | `(tactic| walk_at "5")=>`(tactic| exact fun _ _ _ _ _ _ _ hl=>bnd5 hl fun _ _ _ _ _=>rfl)
local macro_rules | `(tactic| walk_at "6")=>`(tactic| exact fun _ _ _ _ _ _ _ hl=>bnd6 hl fun _ _ _ _ _ _=>rfl)
theorem WT {l:pQ}{w:b9}{K:ah}{h:Heap}{mg:Str->Option ag}{fa:Addr}(X:K.In h) (G:h.Ns mainGlobals mg) (hfa:mg "law" = some (.ref fa))
  {CI:Addr}
  {C0:Addr}
  {C1:Addr}
  {C2:Addr}
  {C3:Addr}
  {C4:Addr}
  {C5:Addr}
  {C6:Addr}
  {u0:Tok}
  {u1:Tok}
  {u2:Tok}
  {u3:Tok}
  {u4:Tok}
  {u5:Tok}
  {u6:Tok}
  {u7:Tok}
  {u8:Tok}
  {u9:Tok}
  {u10:Tok}
  (aCI:aU K mainGlobals "Ice" = some (some (.ref CI))) (pgI:eZ K CI Str.empty=true) (hdI:fI K CI=true) (poI:lg K CI=true) (saI:bG K (.ref CI) "__setattr__" = some (some (.builtin "object.__setattr__"))) (mkI:mf K CI=true) (kcI:bV K (.ref CI)=true)
  (na0:bG K (.ref CI) "valley" = some none)
  (na1:bG K (.ref CI) "cycle" = some none)
  (na2:bG K (.ref CI) "slopes" = some none)
  (na3:bG K (.ref CI) "years" = some none)
  (na4:bG K (.ref CI) "leaps" = some none)
  (a1:gN K "leads_on" vR)
  (a2:gN K "is_reach" yw)
  (a3:gN K "way_down" vH)
  (a4:aU K mainGlobals "lanes" = some (some (.ref f4))) (l4:K.lookup f4=some ⟨oc4,od4,.func (bD "lanes" "lanes" (qg xb) (jT xb) (j8 xb) .none kV4 dc4 pm4 an4 (.ref cL) ct4),sl4⟩) (c4:cx K (.ref cL) "lanes" = true) (k4:bV K (.ref f4)=true) (hdL:PySem.W.codeHdIn K cL 142=true)
  (a5:gN K "way_of" wJ)
  (a6:gN K "count_places" xE)
  (a7:gN K "fits" Js)
  (a8:gN K "is_valley" zC)
  (a9:gN K "heights" vn)
  (a10:gN K "is_weather" yt)
  (a11:gN K "change" kt)
  (a12:gN K "is_round" yk)
  (a13:gN K "check_round" zS)
  (a14:gN K "check_told" yu)
  (a15:gM K CI "__init__" "Ice.__init__" qN)
  (a16:gM K CI "check_lane" "Ice.check_lane" xC)
  (a17:gM K CI "check_place" "Ice.check_place" xm)
  (a18:gM K CI "length" "Ice.length" zP)
  (a19:gM K CI "height" "Ice.height" zO)
  (a20:gM K CI "sky" "Ice.sky" vK)
  (a21:gM K CI "tell" "Ice.tell" yT)
  (a22:gM K CI "surge" "Ice.surge" yv)
  (a23:gM K CI "surges" "Ice.surges" xR)
  (a24:gN K "check_asked" zV)
  (a25:gN K "ride_by" vm)
  (a26:gN K "earliest" vM)
  (a27:gN K "span" Z9)
  (a28:gN K "ridden" wH)
  (a29:gN K "life" XH)
  (a30:gN K "parted" wN)
  (a31:gN K "way" VN)
  (a32:gN K "hidden" wF)
  (a33:gN K "_law_box" uC)
  (a34:gN K "_law_mixed" vc)
  (a35:gN K "_law_take" vI)
  (a36:gN K "_law_whole" yN)
  (a37:gN K "_law_alike" xS)
  (a41:gN K "_law_far" w5)
  (a42:gN K "_law_weather" zU)
  (a43:gN K "_law_round" zD)
  (a44:gN K "_law_ground_drawn" qq)
  (a45:gN K "_law_reaches" xj)
  (a46:gN K "_law_roads" xV)
  (a47:gN K "_law_ground" yr)
  (a48:gN K "_law_year" vT)
  (a49:gN K "_law_scene" xT)
  (a50:gN K "_law_made" vS)
  (a51:gN K "_law_row" uE)
  (a52:gN K "_law_wish" vJ)
  (a53:gN K "_law_ride" yC)
  (a54:gN K "_law_marks" zL)
  (a55:gN K "_law_year_of" zQ)
  (a56:gN K "_law_walk" vD)
  (a57:gN K "_law_spot" vV)
  (a58:gN K "_law_stone_way" qO)
  (a59:gN K "_law_hidden" yA)
  (a60:aU K mainGlobals "law" = some (some (.ref f60))) (l60:K.lookup f60=some ⟨oc60,od60,.func (bD "law" "law" (qg uA) (jT uA) (j8 uA) .none kV60 dc60 pm60 an60 cd60 ct60),sl60⟩) (c60:cx K cd60 "law" = true) (k60:bV K (.ref f60)=true)
  (ec0:gE K "BadValley" C0)
  (ec1:gE K "BadRound" C1)
  (ec2:gE K "NoLane" C2)
  (ec3:gE K "BadYear" C3)
  (ec4:gE K "BadWeather" C4)
  (ec5:gE K "BadSurge" C5)
  (ec6:gE K "NoPlace" C6)
  (z0:aU K mainGlobals "len" = some none)
  (z1:aU K mainGlobals "range" = some none)
  (z2:aU K mainGlobals "isinstance" = some none)
  (z3:aU K mainGlobals "int" = some none)
  (z4:aU K mainGlobals "bool" = some none)
  (z5:aU K mainGlobals "str" = some none)
  (z6:aU K mainGlobals "list" = some none)
  (z7:aU K mainGlobals "tuple" = some none)
  (z8:aU K mainGlobals "min" = some none)
  (z9:aU K mainGlobals "max" = some none)
  (z10:aU K mainGlobals "all" = some none)
  (z11:aU K mainGlobals "zip" = some none)
  (z12:aU K mainGlobals "enumerate" = some none)
  (z13:aU K mainGlobals "sorted" = some none)
  (z14:aU K mainGlobals "sum" = some none)
  (z15:aU K mainGlobals "dict" = some none)
  (q0:aU K mainGlobals "MOST_REACHES" = some (some (.int 8 u0)))
  (q1:aU K mainGlobals "MOST_HEIGHTS" = some (some (.int 12 u1)))
  (q2:aU K mainGlobals "GREATEST_HEIGHT" = some (some (.int 99 u2)))
  (q3:aU K mainGlobals "MOST_LANES" = some (some (.int 6 u3)))
  (q4:aU K mainGlobals "LONGEST_LANE" = some (some (.int 30 u4)))
  (q5:aU K mainGlobals "HIGHEST_LINE" = some (some (.int 100 u5)))
  (q6:aU K mainGlobals "MOST_HANDS" = some (some (.int 9 u6)))
  (q7:aU K mainGlobals "MOST_ROWS" = some (some (.int 12 u7)))
  (q8:aU K mainGlobals "LAST_TOLD" = some (some (.int 99 u8)))
  (q9:aU K mainGlobals "LAST_ASKED" = some (some (.int 10000000000000000000000000000000000000000 u9)))
  (q10:aU K mainGlobals "GREATEST_SURGE" = some (some (.int 9 u10)))
  : ∃fd:FuncData,(∀(s:Shared) (v:ag),pU s fd ⟨[v],[]⟩ [("_law_script",v)])/\∀base:Heap,K.In base->base.Ns mainGlobals mg->Bm mg base->FnOk l.prog w K mg base CX0 11 fa fd ["_law_script"] (Xr K 142):=by
 have e:=hfa.symm.trans (bw X G a60)
 cases e
 have nb:Nb2 mg:={ b_len:=bp X G z0,b_range:=bp X G z1,b_isinstance:=bp X G z2,b_int:=bp X G z3,b_bool:=bp X G z4,b_str:=bp X G z5,b_list:=bp X G z6,b_tuple:=bp X G z7,b_min:=bp X G z8,b_max:=bp X G z9,b_all:=bp X G z10,b_zip:=bp X G z11,b_enumerate:=bp X G z12,b_sorted:=bp X G z13,b_sum:=bp X G z14 }
 have b_dict:=bp X G z15
 have g_MOST_REACHES:=bw X G q0
 have g_MOST_HEIGHTS:=bw X G q1
 have g_GREATEST_HEIGHT:=bw X G q2
 have g_MOST_LANES:=bw X G q3
 have g_LONGEST_LANE:=bw X G q4
 have g_HIGHEST_LINE:=bw X G q5
 have g_MOST_HANDS:=bw X G q6
 have g_MOST_ROWS:=bw X G q7
 have g_LAST_TOLD:=bw X G q8
 have g_LAST_ASKED:=bw X G q9
 have g_GREATEST_SURGE:=bw X G q10
 have e_BadValley:=bw X G ec0.e
 have x_BadValley:=ec0.x
 have e_BadRound:=bw X G ec1.e
 have x_BadRound:=ec1.x
 have e_NoLane:=bw X G ec2.e
 have x_NoLane:=ec2.x
 have e_BadYear:=bw X G ec3.e
 have x_BadYear:=ec3.x
 have e_BadWeather:=bw X G ec4.e
 have x_BadWeather:=ec4.x
 have e_BadSurge:=bw X G ec5.e
 have x_BadSurge:=ec5.x
 have e_NoPlace:=bw X G ec6.e
 have x_NoPlace:=ec6.x
 have cl_Ice:Cls K CI:=⟨pgI,hdI,poI,saI⟩
 have T_Ice:IceC K CI:=⟨cl_Ice,na0,na1,na2,na3,na4⟩
 refine ⟨bD "law" "law" (qg uA) (jT uA) (j8 uA) .none kV60 dc60 pm60 an60 cd60 ct60,λs v=>.of_eq rfl,λbase hKb _ hBm=>?_⟩
 have CH:=PySem.W.codeHd_of_K hKb hdL
 have z:Zt l.prog w K mg base:=⟨X,G⟩
 have c_leads_on:=a1.cal z (by walk_at "2") (Qw)
 have c_is_reach:=a2.cal z (by walk_at "2") (QY nb g_MOST_HEIGHTS g_GREATEST_HEIGHT c_leads_on)
 have c_way_down:=a3.cal z (by walk_at "2") (Qo nb)
 have c_lanes:Cal l.prog w K mg base 5 "lanes" ["reaches"] (ud K 142):=Cal.mkC (st:=xb) X G a4 l4 c4 k4 (by walk_at "1") (Ve nb c_way_down CH hBm l4 c4)
 have c_way_of:=a5.calX z (by walk_at "2") (Yw nb e_NoLane x_NoLane c_lanes)
 have c_count_places:=a6.cal z (by walk_at "2") (wv nb)
 have c_fits:=a7.cal z (by walk_at "2") (UC nb g_MOST_LANES g_LONGEST_LANE c_count_places)
 have c_is_valley:=a8.cal z (by walk_at "1") (Jq nb g_MOST_REACHES c_is_reach c_lanes c_fits)
 have c_heights:=a9.calX z (by walk_at "2") (Zf nb c_way_of)
 have c_is_weather:=a10.cal z (by walk_at "1") (gm g_HIGHEST_LINE g_MOST_HANDS)
 have c_change:=a11.cal z (by walk_at "2") (Yl)
 have c_is_round:=a12.cal z (by walk_at "1") (Qs nb.toNb g_MOST_ROWS c_is_weather)
 have c_check_round:=a13.calX z (by walk_at "1") (wM nb e_BadRound x_BadRound c_is_round)
 have c_check_told:=a14.calX z (by walk_at "1") (gq g_LAST_TOLD e_BadYear x_BadYear)
 have c_Ice:=a15.mak z mkI kcI aCI (by walk_at "3") (uO nb T_Ice e_BadValley x_BadValley c_is_valley c_check_round c_lanes c_heights.cal)
 have c_Ice__check_lane:=a16.calX z (by walk_at "2") (vQ nb T_Ice e_NoLane x_NoLane)
 have c_Ice__check_place:=a17.calX z (by walk_at "3") (vq nb T_Ice e_NoPlace x_NoPlace cl_Ice c_Ice__check_lane)
 have c_Ice__length:=a18.calX z (by walk_at "2") (kP nb T_Ice cl_Ice c_Ice__check_lane)
 have c_Ice__height:=a19.calX z (by walk_at "3") (wL nb T_Ice cl_Ice c_Ice__check_place)
 have c_Ice__sky:=a20.cal z (by walk_at "2") (Xk nb T_Ice)
 have c_Ice__tell:=a21.calX z (by walk_at "3") (Q0 nb T_Ice e_BadWeather x_BadWeather c_check_told c_is_weather)
 have c_Ice__surge:=a22.calX z (by walk_at "4") (gh nb T_Ice cl_Ice g_GREATEST_SURGE e_BadSurge x_BadSurge c_Ice__check_lane c_check_told)
 have c_Ice__surges:=a23.calX z (by walk_at "2") (kS nb T_Ice cl_Ice c_Ice__check_lane)
 have c_check_asked:=a24.calX z (by walk_at "1") (kC g_LAST_ASKED e_BadYear x_BadYear)
 have c_ride_by:=a25.cal z (by walk_at "2") (Zk nb)
 have c_earliest:=a26.cal z (by walk_at "2") (QW nb)
 have c_span:=a27.calX z (by walk_at "3") (Uw cl_Ice c_Ice__surges c_Ice__length c_earliest)
 have c_ridden:=a28.calX z (by walk_at "3") (Yc cl_Ice c_Ice__surges c_check_asked c_ride_by)
 have c_life:=a29.calX z (by walk_at "3") (Ux nb b_dict cl_Ice c_span c_Ice__surges c_ride_by c_change c_Ice__sky c_Ice__height)
 have c_parted:=a30.calX z (by walk_at "4") (Y8 cl_Ice c_Ice__check_place c_ridden c_life)
 have c_way:=a31.calX z (by walk_at "4") (G2 nb c_parted)
 have c_hidden:=a32.calX z (by walk_at "4") (YI c_way)
 have c_law_box:=a33.cal z (by walk_at "1") (WX nb.toNb)
 have c_law_mixed:=a34.cal z (by walk_at "2") (U1)
 have c_law_take:=a35.cal z (by walk_at "2") (Ua nb.toNb c_law_mixed)
 have c_law_whole:=a36.cal z (by walk_at "1") (V9 nb)
 have c_law_alike:=a37.cal z (by walk_at "2") (Y9)
 have c_law_alike:=a37.cal z (by walk_at "2") (uF 0 nb c_law_whole c_law_alike)
 have c_law_alike:=a37.cal z (by walk_at "2") (uF 1 nb c_law_whole c_law_alike)
 have c_law_alike:=a37.cal z (by walk_at "2") (uF 2 nb c_law_whole c_law_alike)
 have c_law_far:=a41.cal z (by walk_at "1") (WV nb c_law_take)
 have c_law_weather:=a42.cal z (by walk_at "1") (Zi c_law_take)
 have c_law_round:=a43.cal z (by walk_at "1") (Vp nb.toNb c_law_take c_law_weather)
 have c_law_ground_drawn:=a44.cal z (by walk_at "3") (wu nb c_law_take)
 have c_law_reaches:=a45.cal z (by walk_at "1") (XZ nb c_law_take c_law_ground_drawn)
 have c_law_roads:=a46.cal z (by walk_at "1") (Vg nb)
 have c_law_ground:=a47.cal z (by walk_at "2") (Yt)
 have c_law_year:=a48.cal z (by walk_at "1") (Up c_law_take)
 have c_law_scene:=a49.cal z (by walk_at "1") (Vn nb c_law_take c_law_reaches c_law_round c_law_ground c_law_roads c_law_year c_law_weather)
 have c_law_made:=a50.cal z (by walk_at "1") (Ur nb cl_Ice c_Ice c_Ice__tell c_Ice__surge)
 have c_law_row:=a51.cal z (by walk_at "2") (Gr nb)
 have c_law_wish:=a52.cal z (by walk_at "2") (Ue)
 have c_law_ride:=a53.cal z (by walk_at "3") (UK nb)
 have c_law_marks:=a54.cal z (by walk_at "3") (Vo nb c_law_ride)
 have c_law_year_of:=a55.cal z (by walk_at "5") (XT nb c_law_marks c_law_wish c_law_row)
 have c_law_walk:=a56.cal z (by walk_at "3") (Ub nb c_law_year_of)
 have c_law_spot:=a57.cal z (by walk_at "2") (Uy nb c_law_take)
 have c_law_stone_way:=a58.cal z (by walk_at "4") (JE nb b_dict c_law_ride c_law_walk)
 have c_law_hidden:=a59.cal z (by walk_at "1") (gz nb)
 exact Gn nb c_law_box c_law_take c_law_scene c_law_made c_law_spot c_law_stone_way c_law_hidden c_law_far c_hidden c_law_alike c_way (vU (st:=uA) l60 c60 k60)
end K26
end
open PySem PySem.W PyProof.Rows
set_option maxRecDepth 100000 in
set_option maxHeartbeats 0 in
theorem PySem.Challenge.cw_firnfall_k26_years_out_of_sight_holds : PySem.Challenge.rw_firnfall_k26_years_out_of_sight.Holds := by
 w_on
 refine holds_law HO.ws λsaid=>?_
 refine holds_open (q:=HO.view) (loose:=HO.loose) (N:=9000) (Xt:=HO.xt) (XP:=XL HO.view [])
  (Yf:=Hook.obs (oW HO.frag.heap_1 HO.asL HO.asE [142])) (Ya:=Hook.val (oW HO.frag.heap_1 HO.asL HO.asE [142])) (YP:=Hook.says (oW HO.frag.heap_1 HO.asL HO.asE [142]))
  HO.left (Hook.of (oW HO.frag.heap_1 HO.asL HO.asE [142])) (Hook.keeps (oW HO.frag.heap_1 HO.asL HO.asE [142]))
  (λs e=>xl_of s (Bool.and_eq_true_iff.mp e).1) XL.keeps rfl rfl rfl
  (λs e=>recFacts_of (Bool.and_eq_true_iff.mp e).2) rfl
  (by first | assumption | decide +kernel) (by decide +kernel) ⟨rfl,rfl,rfl,rfl,rfl,by decide +kernel⟩ ?hw ?hc
 (case hw=>w_witness2)
 k_fill
 refine L2.UX (l:=PySem.Challenge.rw_firnfall_k26_years_out_of_sight) 11 144 142 ⟨rfl,⋯,⋯⟩ rfl rfl (λw h Y=>⟨PySem.W.km_in_of Y,PySem.W.km_tabs_of Y 142 (by simp)⟩) (λ_=>by kernel_rfl) (λ_=>by kernel_rfl) ?F
 case F =>
  intro w mg fa h KX G hmg
  refine' K26.WT KX G hmg ..
  all_goals try first | refine' L2.gN.mk ?_ ?_ ?_ ?_ | refine' L2.gM.mk ?_ ?_ ?_ ?_ ?_ | refine' L2.gE.mk ?_ ?_ ?_
  all_goals try show _=_
  all_goals try k_is
  all_goals kernel_rfl
