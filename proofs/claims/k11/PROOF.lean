import PyProof.Rows.All
import Wide.All
import OpenK.AllK
import Wide.FinOn
import Lean
import PyProof.EqAt
import PyProof.EqKinds
import PyProof.TupleCall
import PyProof.NsDelKeeps
import PyProof.AttrMissHeap
import KE.KDictOf
import PyProof.Rows.MinMaxN
import OpenK.KLine
import KE.KNestM
import PySem.Challenge.RW_firnfall_k11_rides_by_a_year
set_option Elab.async false
set_option linter.all false
set_option maxRecDepth 100000
set_option maxHeartbeats 0
open And renaming intro->fF
open Array renaming length_toList->bN,getElem?_eq_getElem->dC,getElem?_setIfInBounds_ne->fS,getD_eq_getD_getElem?->iB,getElem?_toList->ml,getD->nR,forIn_toList->nX,mk->o8,toList_map->oZ
open Bool renaming false_ne_true->ar,and_eq_true->ba,false_eq_true->c9,eq_iff_iff->d7,true_and->eE,and_false->rC
open False renaming elim->bp
open ForIn renaming forIn->sM
open ForInStep renaming yield->bU
open Int renaming toNat_natCast->bL,emod_lt_of_pos->ft,emod_nonneg->iq,fdiv_eq_ediv_of_nonneg->iH,lt_of_le_of_lt->iR,zero_add->lV
open LawfulBEq renaming eq_of_beq->su
open List renaming length_map->af,getElem?_eq_getElem->ag,getD_eq_getElem?_getD->ao,getElem?_map->aq,mem_of_getElem?->au,size_toArray->ax,length_append->az,map_append->aC,mem_append_right->aE,mem_cons_of_mem->aK,append_nil->aP,length_take->aT,range->aV,Nodup->aZ,map_cons->b8,length_singleton->bf,mem_cons_self->bh,length_filter_le->bo,length_cons->bq,take_length->br,take_add_one->bE,map_map->bO,all_eq_true->bQ,getElem_mem->bW,filter_append->cc,take_of_length_le->cg,mem_or_eq_of_mem_set->ck,length_range->cq,mem_append_left->cB,lookup_cons->cD,getElem?_append_right->cI,reverse->cK,getElem?_set->cN,mem_map_of_mem->cP,getElem?_append_left->cS,map_set->d4,replicate->dm,getElem?_zip_eq_some->dA,drop_eq_getElem_cons->dB,ext_getElem?->dI,map_congr_left->dO,lookup->dR,range_succ->ez,find?_cons->eA,length_replicate->eG,reverse_reverse->eP,map_nil->eU,all_map->eV,not_mem_nil->eW,filterMap_cons->eX,any_cons->fe,mem_cons->fi,of_mem_zip->fk,pairwise_singleton->fB,filter->fC,filter_cons_of_neg->fD,filter_cons_of_pos->fE,getElem?_set_self->fH,length_pos_of_mem->fO,append_assoc->fP,getElem_map->fX,getElem?_set_ne->i6,length->i8,length_set->ig,forIn_cons->ij,length_reverse->iz,map->iM,nodup_nil->iQ,reverse_cons->iX,flatten_cons->iY,getElem?_replicate->ly,map_snd_zip->lC,ext_getElem->lE,filter_cons->lH,drop_of_length_le->lS,map_id->mE,replicate_succ'->mK,all_cons->nk,sum_cons->nv,filterMap_map->nN,toArray->oJ,getElem?_inj->oQ,length_drop->oW,zipIdx_cons->pf,map_reverse->px,any_eq_true->pz,zipIdx_nil->pR,length_nil->pT,filter_nil->pU,forIn_nil->rQ,take_zero->rT,any->sU
open List.Pairwise renaming nil->fL
open List.Perm renaming refl->mC
open Nat renaming le_refl->av,ne_of_lt->aB,le_trans->aF,lt_of_lt_of_le->aI,zero_le->aO,lt_of_le_of_lt->bI,lt_succ_of_lt->c5,lt_irrefl->cw,ne_of_gt->cG,le_of_lt->cV,succ_le_succ->di,le_succ->dH,le_add_right->dQ,le_succ_of_le->eL,lt_succ_self->fV,le_of_eq->oh,le_of_succ_le->oR,not_lt_zero->pO
open Ne renaming symm->cE
open Option renaming toList_some->dw,isSome_map->oO,getD_none->oY,bind_some->pw
open Option.some renaming inj->bg
open Or renaming inl->bb,inr->lR
open Prod renaming snd->lB,fst->rE
open PyProof.Rows renaming boot_isinstance->aH,seqObj->bu,boot_list->bz,boot_tuple->c8,callWith_type1->cF,slot_tuple_getitem->cR,listUpdate_at->cY,IntsAre->df,get?_update_seq->ef,boot_int->eJ,seqEpoch_at->eO,boot_bool->fQ,boot_dict->fR,AllBare->fY,subscriptTail->i4,envOfC->ie,Subscript_->lO,subscriptTail_builtinR->lP,listItems_at->lT,entry_list_sort->m9,boot_str->mm,slot_list_sort->mB,boot_all->mJ,entry_tuple_getitem->mV,slot_tupleiter_next->nh,args_tuple_getitem->nO,size_push'->nW,plain_sorted->oH,entry_sorted->oI,kind_sorted->pK,boot_sorted->pL,list_sort_plain->pN,IsTup->rf,slicePart_none->rn,SortKind->rJ,args_list_sort->rM,failedOf->rP,tupleItemsOf_->rZ,tail_any->sL,boot_sum->sR,boot_min->sS
open PyProof.Rows.IsTup renaming new->oX
open PyProof.Rows.KeyOrd renaming kle_refl->d8,kle_of_klt->fN,kle_trans->fW,kle_antisymm->iu
open PySem renaming wpAny_bind->aa,Value->ah,wpAny->ay,model->aD,starEach->aN,boot_len->aR,World->aU,wpAny_mono->aW,Around->b9,wpAny_field->bw,wpAny_newObj_type->bx,wpAny_holding->bC,sizeLine_eq->bF,wpAny_callSpecial?_slot->bP,wpAny_loadPart'->bV,wpAny_truthy_bool->c3,rawInt->c6,wpAny_call_entry->cf,foldedSetIterable->cn,compareOp->cu,bindArgs->cC,wpAny_seqItems->cM,letOwnedTupleGo->cQ,backTo->cT,wpAny_Call_Name_kw->cU,wpAny_standAt->cW,codeAny->cX,assignEach->d6,mem_of_lookup->d9,codeAny_mono->de,wpAny_setField_rec->du,importedModules->dE,wpAny_passesOwn->dG,Paired->dJ,wpAny_comprehension_free->dM,IsPair->dN,Builtin->dS,sysModules->dW,binaryOp->ee,behindInMarks->eB,wpAny_attempt->eC,wpAny_pyIter_list->eK,wpAny_newFunctionEnv_cells->eN,wpAny_setField->eQ,bootBuiltins->eR,pyNext->eY,attributeBase->f7,wpAny_newList->fh,wpAny_execs_nil->fj,wpAny_call->fm,wpAny_rule->fq,sliceBounds->fA,NameKind->fJ,codeAny_compStart_list->fM,assign->fU,standAt->fZ,holding->i0,keywordEach->i7,wpAny_newFunctionEnv->ia,wpAny_updateSeq_pair->ic,PyData->ip,getItem->iA,swapsWith->iE,noteFrame->iF,wpAny_newTuple->iL,firstArgMember->iN,IsZip->iO,tupleKind_room_in1->iP,pyIter->iZ,evalPart_none->l9,wpAny_getItem_list_slice->lg,wpAny_onRaise->lh,wpAny_eqBool_int->lr,wpAny_execs_cons->lu,cellsFrom->lx,noFill_tuple_add->lA,wpAny_isInstance->lF,OsState->lI,builtinsNs->lK,wpAny_pyNext_list_item->lL,Keyword->lM,IsPart->lN,valueAt->lU,theTreesLotGoes->lY,codeAny_builtin->lZ,field->md,wpAny_isTrue_Compare1->me,wpAny_pyIter_listiter->mf,codeAny_call_function->mi,Result->mq,backToKw->mr,subscripted->mw,newFunctionEnv->mx,wpAny_letGo->mD,wpAny_of_eq->mF,ZipApart->mG,isSubtype_stop->mH,tupleKind->mL,getMethod->mP,leaving->mQ,callerA->mT,seq_tuple_add->ni,evalPart_some->nj,eval_ListComp->nu,wpAny_pyIter_tuple->nJ,closureFor->nQ,slot_listiter_next->nZ,Within->o9,wpAny_assign_Name->oa,BindsTo->ow,concat_meets->oz,wpAny_sequenceKey->oA,seqIndex_neg->oB,compEnvC->oC,codeAny_loop->oE,compTurn->oF,newList->oG,wpAny_pyIter_enum->oK,wpAny_pyIter_dict->oP,seqItems?->pe,wpAny_pyIter_zip->pj,checkBuiltinCall->pq,bindL->pE,bindC->pG,wpAny_Slice->pH,seqIndex_of->pI,wpAny_noted->pJ,atKey->pM,wpAny_specialOf->pS,Params->pX,wpAny_Name->rg,CmpOp->rh,wpAny_loadPart->rm,typeLookup->rp,typeOf->rz,call_meets->rA,compPost->rH,checkCount->rK,boundAndCalled->rS,assignInOrder->rW,intBits_le_64->rX,call_list_seq->se,plainId_quiet->sf,wpAny_handled->sj,treeTable->sr,cellOf->sy,relabel->sA,GenState->sG,Model->sI,callWith->sJ,newExc->sV
open PySem.Around renaming frames_deeper->mv,under_plainId->my,under->oo
open PySem.Builtin.List renaming listTooLong->ff
open PySem.Builtin.Slice renaming slicePlaces->bJ,sliceAdjust->cj,sliceApplied->dq,sliceFields->iS
open PySem.Builtin.SmallTypes renaming nextOf->bB,ownedTupleIsFree->cA,ownedTupleHandOut->eZ
open PySem.Builtin.Tuple renaming tupleExact->bM,tupleItemsOf->iJ
open PySem.Calls renaming evalArgs_plain->i9,Name_function_global->iG,call_function_entry->iT,callWith_builtin->lQ,spliced_cons->nK,spliced_nil->ou
open PySem.Code renaming isFrame->oq
open PySem.Data renaming cell->mM,fields->pC
open PySem.EntryCells renaming newEntry->mZ
open PySem.Env renaming kindOf->rG
open PySem.F renaming excBase_ValueError->bA,slot_list_append->bX,type_list_append->bY,plainAttrs_list->c7,slot_tuple_iterator_next->dr,args_tuple_add_2->fc,entry_tuple_add->fv,slot_tuple_add->fK,args_tuple_iterator_next_1->ik,slot_zip_next->il,entry_tuple_iterator_next->iC,slot_dict_delitem->iU,slot_dict_pop->mj,slot_list_lt->mz,args_zip_next_1->oN,entry_zip_next->ph
open PySem.Fin renaming done->rO
open PySem.Heap renaming get?_push_of_some->ak,lt_size->aw,get?_push_size->aA,get?_update_other->bS,get?_update_ne->bZ,size_push->cx,get?_push_ne->cJ,get?_update_self->dz,size_update->dP,SameBut->dX,ExtBut->ib,MadeExcOf->mI
open PySem.Heap.IsSliceOf renaming new->iK
open PySem.Heap.SameBut renaming update->mX
open PySem.NameKind renaming free->bc,cell->i5
open PySem.Obj renaming mapSeq->aY,data_mapFields->dZ,mapFields->eF,isFreed_of_fields->eI,cls_mapFields->oM
open PySem.Paired renaming length->aX,snoc->dh
open PySem.PassesOwn renaming never->bG
open PySem.SeqAt.EqAt renaming int_str->nE,str_int->nI
open PySem.Str renaming ofString->aj
open PySem.Value renaming none->aS,ref->b7,isInt_shape->fG,type->fT,int->iD,builtin->lj,str->lp,bool->lJ,isStrOf_shape->mU,float->pA,isStrOf->rV
open PySem.W renaming Frag->ai,kitOne->aG,mg_of->aM,nsIn->aQ,mg_none_of->bj,fnOf->bD,findIn->bH,keepIn->bK,exmOne->bR,kia_one->bT,emptyDict->cp,codeIn->cz,boot_heap->cO,excIn->cZ,instObj->d5,callWith_K->dj,cellsFrom_some->dY,plainGet->eS,hasDictIn->fI,plainGet_of->ir,lookIn->iI,methodObj->iV,plainOver->iW,takerIn->lW,makesIn->lX,methodCall_KW->mh,boot_drawn->nA,namesBound->nB,codeRec_of->nM,isFn->og,kitx_list->oj,kitx_dict->om,staticsOk->oS,kmHook->oU,handedIn->oV,OpenLaw->pQ,topStub->pV,kas_rev->pW,tabObj->pY,gensDone->pZ,laidKept->r9,InstAt->rj,funFrames_hide->rR,kas_tail3->sv,topRun->sx,openSeen->sD,openGood->sF,openEnds->sH,kas_sort->sN,kas_item->sO,kat_snds->sP
open PySem.W.Looks renaming of_pure->si,ld->sQ
open PySem.W.OpenLaw renaming row->mn
open StateT renaming run_pure->ma
open Sum renaming inr->aJ,inl->dU
open Sum.inl renaming inj->eM
open True renaming intro->cH
open PySem PySem.Spec PyProof.Rows
local macro_rules | `(∅)=>`(by omega)
local macro_rules | `(⋯)=>`(by decide)
section
namespace HO
open PySem PySem.W PyProof.Rows PySem.Calls PySem.Spec
def view:Program:={ PySem.Challenge.pw_firnfall_k11_rides_by_a_year with main:={ PySem.Challenge.pw_firnfall_k11_rides_by_a_year.main with body:=(PySem.Challenge.pw_firnfall_k11_rides_by_a_year.main.body).drop 84 } }
def loose:List Str:=[aj "_wall",aj "FirnError",aj "BadValley",aj "BadRound",aj "BadWeather",aj "BadYear",aj "BadSurge",aj "BadRock",aj "BadName",aj "BadHand",aj "BadDeed",aj "NoLane",aj "NoPlace",aj "NoName",aj "NotTold",aj "NothingThere",aj "Taken",aj "Full",aj "BadPage",aj "MOST_REACHES",aj "MOST_HEIGHTS",aj "GREATEST_HEIGHT",aj "MOST_LANES",aj "LONGEST_LANE",aj "is_valley",aj "is_reach",aj "leads_on",aj "fits",aj "lanes",aj "way_down",aj "way_of",aj "count_places",aj "heights",aj "HIGHEST_LINE",aj "MOST_HANDS",aj "MOST_ROWS",aj "is_weather",aj "is_round",aj "LAST_TOLD",aj "LAST_ASKED",aj "GREATEST_SURGE",aj "check_told",aj "check_asked",aj "check_round",aj "Ice",aj "ride_by",aj "ridden",aj "_law_box",aj "_law_mixed",aj "_law_take",aj "_law_whole",aj "_law_alike",aj "_law_far",aj "_law_odd",aj "_law_weather",aj "_law_round",aj "_law_ground_drawn",aj "_law_reaches",aj "_law_roads",aj "_law_ground",aj "_law_year",aj "_law_scene",aj "_law_made",aj "_law_ride",aj "_law_spot",aj "_law_refused",aj "_law_due_spot",aj "_law_bent_spot",aj "_law_bent_row",aj "_law_good_row",aj "_law_kinds",aj "_law_ice_deed",aj "_law_ice_due",aj "_law_scene_copy",aj "_law_ice_step",aj "_law_ice_do",aj "_law_ice_turn",aj "_law_try_ride"]
section
local macro_rules | `(tactic| o_head $H)=>`(tactic| (have hook:=$H;assumption))
theorem frag (hyp:(mn PySem.Challenge.rw_firnfall_k11_rides_by_a_year).Holds):(mn PySem.Challenge.rw_firnfall_k11_rides_by_a_year).Holds:=by
 k_head
end
def asL:List Addr:=[2,3,15,17,18,20,21,22,29,30,31,32,35,42,43,44,47,54,55,56,59,66,67,68,71,78,79,80,83,90,91,92,95,102,103,104,107,114,115,116,119,126,127,128,131,138,139,140,143,150,151,152,155,162,163,164,167,174,175,176,179,186,187,188,191,198,199,200,203,210,211,212,215,222,223,224,227,234,236,237,239,240,241,242,243,246,249,250,251,254,255,256,258,259,261,262,263,266,267,268,271,272,273,275,276,278,279,280,282,283,285,286,287,290,291,292,295,296,297,299,300,302,303,304,307,308,309,311,312,314,315,316,318,319,321,322,323,325,326,328,329,337,340,341,342,344,345,347,348,349,351,352,354,355,356,358,359,361,362,363,365,366,368,369,370,372,373,375,376,377,379,380,382,383,384,386,387,389,390,391,393,394,396,397,398,400,401,403,404,405,407,408,410,411,412,414,415,417,418,419,421,422,424,425,426,429,430,431,434,435,436,438,439,441,442,443,445,446,448,449,450,452,453,455,456,457,458,459,460,461,464,467,468,469,471,472,474,475,476,478,479,481,482,483,485,486,488,489,490,492,493,495,496,497,499,500,502,503,504,507,508,509,511,512,514,515,516,518,519,521,522,523,525,526,528,529,530,533,534,535,538,539,540,543,544,545,548,549,550,552,553,555,556,557,559,560,562,563,564,567,568,569,571,572,574,575,576,579,580,581,583,584,586,587,588,591,592,593,595,596,598,599,600,602,603,605,606,607,609,610,612,613,614,616,617,619,620,621,624,625,626,629,630,631,634,635,636,639,640,641,643,644,646,647,648,650,651,653,654,655,657,658,660,661,662,664,665,667,668,669,672,673]
theorem asE (P:pX):asL=(frag.heap_1 P).map (·.1):=by kernel_rfl
def WK:List Obj->Nat->BT->BT
 | [],_,t=>t
 | o::r,n,t=>WK r (n+1) (t.ins n o)
noncomputable def s0T (w:aU) (os:lI):SharedT:=⟨WK (cO w.params).objs.toList 0 .nil,(cO w.params).objs.size,(cO w.params).life,o8 [],nA,boot_toks,os⟩
noncomputable def topT (w:aU) (os:lI):Option (Flow×SharedT×Code×Pos):=PySem.W.Fast.tw10110043849684766642 PySem.W.Fast.tw14364793385576792824 PySem.Challenge.pw_firnfall_k11_rides_by_a_year w (cO w.params).objs.size ((cO w.params).nsMap mainGlobals "__annotations__") 0 12000 (s0T w os) (pV PySem.Challenge.pw_firnfall_k11_rides_by_a_year)
noncomputable def top (w:aU) (os:lI):Option Shared:=(topT w os).map λr=>r.2.1.abs
def xt (s:Shared):Bool:=xlAt view [] s && recOk (RowW.records (OpenRow.toRowW (mn PySem.Challenge.rw_firnfall_k11_rides_by_a_year))) s
theorem ran2 (w:aU) (os:lI):(top w os).map (λs=>(asL.map s.heap.get?,[269].map s.heap.get?))=some ((frag.heap_1 w.params).map λp=>some p.2,[269].map λ_=>some (pY #[])):=by kernel_rfl
theorem ws:OpenLaw.wellSaid PySem.Challenge.rw_firnfall_k11_rides_by_a_year=true:=by kernel_rfl
theorem ran1 (w:aU) (os:lI):(top w os).map (λs=>sD view loose (dE PySem.Challenge.pw_firnfall_k11_rides_by_a_year.main.body) xt true s)=some (sF view loose):=by kernel_rfl
theorem ran0 (w:aU) (os:lI):(top w os).map (λs=>oS (dE PySem.Challenge.pw_firnfall_k11_rides_by_a_year.main.body) (cO w.params) s.heap && nB PySem.Challenge.pw_firnfall_k11_rides_by_a_year s.heap && pZ s && r9 (cO w.params) s.heap)=some true:=by kernel_rfl
theorem Wn (w:aU) (os:lI):(s0T w os).abs=⟨cO w.params,o8 [],nA,boot_toks,os⟩:=by kernel_rfl
theorem JR {tb:String->Option dS}{p:Program}{w:aU}{m:Nat}{ann:Option ah}:∀{n:Nat}{s s':Shared}{t:Thread}{f:Flow}{c:Code}{q:Pos},segRun tb p w m ann 0 n s t=some (f,s',c,q)->sx tb p w m ann n s t=some s'
 | 0,_,_,_,_,_,_,h=>by cases h
 | n+1,s,s',t,f,c,q,h=>by
  unfold segRun at h
  unfold sx
  cases he:endAt 0 t with
  | some x =>
   rw [he] at h
   have ht:through t=true:=by
    obtain ⟨cur,code,pos,st⟩:=t
    cases st with
    | cons a b=>cases he
    | nil =>
     unfold endAt at he
     unfold through
     split at he
     ·rename_i _ _ _ _ hc
      have hc':cur=_:=hc
      subst hc'
      rfl
     ·cases he
   rw [ht]
   cases h
   rfl
  | none =>
   rw [he] at h
   have ht:through t=false:=by
    obtain ⟨cur,code,pos,st⟩:=t
    cases st with
    | cons a b=>rfl
    | nil =>
     cases cur <;> first | rfl | (rename_i x;cases x <;> first | rfl | cases he)
   rw [ht]
   cases hk:stepOk m ann t with
   | false=>rw [hk] at h;cases h
   | true =>
    rw [hk] at h
    cases hs:step (denote tb) p w s t with
    | halt o s2=>rw [hs] at h;cases h
    | go s2 t2=>rw [hs] at h;exact JR h
theorem YD {w:aU}{os:lI}{s:Shared}(e:top w os=some s):sx sr PySem.Challenge.pw_firnfall_k11_rides_by_a_year w (cO w.params).objs.size ((cO w.params).nsMap mainGlobals "__annotations__") 12000 ⟨cO w.params,o8 [],nA,boot_toks,os⟩ (pV PySem.Challenge.pw_firnfall_k11_rides_by_a_year)=some s:=by
 obtain ⟨⟨f,sT,c,q⟩,h,rfl⟩:=Option.map_eq_some_iff.mp e
 have h2:segRunT sr PySem.Challenge.pw_firnfall_k11_rides_by_a_year w (cO w.params).objs.size ((cO w.params).nsMap mainGlobals "__annotations__") 0 12000 (s0T w os) (pV PySem.Challenge.pw_firnfall_k11_rides_by_a_year)=some (f,sT,c,q):=by
  rw [PySem.W.Fast.te10110043849684766642,PySem.W.Fast.te14364793385576792824]
  exact h
 have h3:=JR (segRun_of h2)
 rw [Wn] at h3
 exact h3
theorem US (w:aU):((cO w.params).isNs mainGlobals && (o8 []:Array sG).size == 0)=true:=by kernel_rfl
theorem Jv {tb:String->Option dS}{p:Program}{w:aU}{N:Nat}{s:Shared}{h:Heap}{gs d k os}(hb:(h.isNs mainGlobals && gs.size == 0)=true) (hr:sx tb p w h.objs.size (h.nsMap mainGlobals "__annotations__") N ⟨h,gs,d,k,os⟩ (pV p)=some s) (hl:(oS (dE p.main.body) h s.heap && nB p s.heap && pZ s && r9 h s.heap)=true):topFrom tb p w N ⟨h,gs,d,k,os⟩=some s:=by
 unfold topFrom
 rw [hb]
 show ((sx tb p w h.objs.size (h.nsMap mainGlobals "__annotations__") N ⟨h,gs,d,k,os⟩ (pV p)).bind _)=_
 rw [hr]
 show (match oS (dE p.main.body) h s.heap && nB p s.heap && pZ s && r9 h s.heap with | true=>some s | false=>none)=_
 rw [hl]
theorem ZM {tb:String->Option dS}{p:Program}{w:aU}{N:Nat}{s₀ s:Shared}(a:fencedOpening tb p w N=some s₀) (t:topFrom tb p w N s₀=some s):sH tb p w N=some s:=by
 unfold sH
 rw [a]
 exact t
theorem left:LeftO (mn PySem.Challenge.rw_firnfall_k11_rides_by_a_year).prog view loose xt (Hook.obs (oU frag.heap_1 asL asE [269])) (Hook.val (oU frag.heap_1 asL asE [269])) 12000:=λw=>by
 obtain ⟨⟨h,gs,d,k,os⟩,a,b⟩:=Option.map_eq_some_iff.mp (boot_open (p:=PySem.Challenge.pw_firnfall_k11_rides_by_a_year) (N:=12000) (by kernel_rfl) ⋯ (λs=>by kernel_rfl) w)
 obtain ⟨rfl,rfl,rfl,rfl⟩:h=cO w.params/\gs=o8 []/\d=nA/\k=boot_toks:=by simpa using b
 have h0:=ran0 w os
 have h1:=ran1 w os
 have h2:=ran2 w os
 cases e:top w os with
 | none=>rw [e] at h1;cases h1
 | some s =>
  rw [e] at h0 h1 h2
  have l1:(oS (dE PySem.Challenge.pw_firnfall_k11_rides_by_a_year.main.body) (cO w.params) s.heap && nB PySem.Challenge.pw_firnfall_k11_rides_by_a_year s.heap && pZ s && r9 (cO w.params) s.heap)=true:=bg h0
  have l2:sD view loose (dE PySem.Challenge.pw_firnfall_k11_rides_by_a_year.main.body) xt true s=sF view loose:=bg h1
  obtain ⟨m1,m2⟩:=Prod.mk.inj (bg h2)
  have m5:asL.map s.heap.get? = (frag.heap_1 w.params).map λp=>some p.2:=m1
  have t:=ZM a (Jv (US w) (YD e) l1)
  show (sH sr PySem.Challenge.pw_firnfall_k11_rides_by_a_year w 12000).map _=_
  rw [t]
  show some (sD view loose (dE PySem.Challenge.pw_firnfall_k11_rides_by_a_year.main.body) xt true s,(asL.map s.heap.get?,[269].map s.heap.get?))=some (sF view loose,_)
  rw [l2,m5,m2]
  rfl
end HO
end
noncomputable section
namespace L2
noncomputable abbrev Key:=Sum Int Str
noncomputable def gG:Key->ah->Bool
 | .inl k,v=>Value.isInt k v
 | .inr x,v=>rV x v
noncomputable def keyH (w:aU):Key->Int
 | .inl k=>hashInt k
 | .inr x=>hashStr w x
theorem qz:∀{k:Key}{v:ah},gG k v=true->(∃i t,k=dU i/\v=iD i t)\/(∃x t,k=aJ x/\v=lp x t)
 | .inl i,v,h=>by
  obtain ⟨t,e⟩:=fG (k:=i) (v:=v) h
  exact .inl ⟨i,t,rfl,e⟩
 | .inr x,v,h=>by
  obtain ⟨t,e⟩:=mU (x:=x) (v:=v) h
  exact .inr ⟨x,t,rfl,e⟩
theorem ZN (i:Int) (t:Tok):gG (.inl i) (.int i t)=true:=by simp [gG,Value.isInt]
theorem Yr (x:Str) (t:Tok):gG (.inr x) (.str x t)=true:=by simp [gG,rV]
theorem Wb (a b:Int):decide ((dU a:Key)=dU b)=(a == b):=by
 by_cases e:a=b
 ·subst e;simp
 ·have h:¬(dU a:Key)=dU b:=λq=>e (eM q)
  rw [decide_eq_false h]
  exact (beq_eq_false_iff_ne.mpr e).symm
theorem UK (a b:Str):decide ((aJ a:Key)=aJ b)=decide (a=b):=by
 by_cases e:a=b
 ·subst e;simp
 ·have h:¬(aJ a:Key)=aJ b:=λq=>e (Sum.inr.inj q)
  rw [decide_eq_false h,decide_eq_false e]
theorem Wx (a:Int) (b:Str):decide ((dU a:Key)=aJ b)=false:=decide_eq_false (λq=>nomatch q)
theorem W6 (a:Str) (b:Int):decide ((aJ a:Key)=dU b)=false:=decide_eq_false (λq=>nomatch q)
noncomputable def jV (prog:Program) (w:aU):PySem.KeyKind prog w Key where
 is:=gG
 hash:=keyH w
 inj:=λv a b ha hb=>by
  rcases qz ha with ⟨i,t,rfl,rfl⟩ | ⟨x,t,rfl,rfl⟩
  ·rcases qz hb with ⟨j,u,rfl,e⟩ | ⟨y,u,rfl,e⟩
   ·injection e with e1 _;rw [e1]
   ·exact nomatch e
  ·rcases qz hb with ⟨j,u,rfl,e⟩ | ⟨y,u,rfl,e⟩
   ·exact nomatch e
   ·injection e with e1 _;rw [e1]
 byValue:=λk v h=>by
  rcases qz h with ⟨i,t,rfl,rfl⟩ | ⟨x,t,rfl,rfl⟩ <;> rfl
 pyHash:=λhv h=>by
  rcases qz hv with ⟨i,t,rfl,rfl⟩ | ⟨x,t,rfl,rfl⟩
  ·exact wpAny_pyHash_int h
  ·exact wpAny_pyHash_str h
 eqBool:=λhu hv h=>by
  rcases qz hu with ⟨i,t,rfl,rfl⟩ | ⟨x,t,rfl,rfl⟩
  ·rcases qz hv with ⟨j,u,rfl,rfl⟩ | ⟨y,u,rfl,rfl⟩
   ·rw [Wb] at h;exact lr h
   ·rw [Wx] at h;exact nE i t y u _ _ _ _ h
  ·rcases qz hv with ⟨j,u,rfl,rfl⟩ | ⟨y,u,rfl,rfl⟩
   ·rw [W6] at h;exact nI x t j u _ _ _ _ h
   ·rw [UK] at h;exact wpAny_eqBool_str h
 «strs»:=λk x t v h=>by
  rcases qz h with ⟨i,u,rfl,e⟩ | ⟨y,u,rfl,e⟩
  ·exact nomatch e
  ·injection e with e1 _
   subst e1
   cases v <;> rfl
theorem QA (prog:Program) (w:aU) (i:Int) (t:Tok):(jV prog w).is (.inl i) (.int i t)=true:=ZN i t
theorem Qw (prog:Program) (w:aU) (x:Str) (t:Tok):(jV prog w).is (.inr x) (.str x t)=true:=Yr x t
end L2
namespace L2
inductive V where
 | non | bl (b:Bool) | int (i:Int) | str (x:Str) | byt (b:Array UInt8) | flt (b:UInt64) | ref (a:Addr) | ty (n:String)
 deriving DecidableEq
noncomputable def jK:V->ah->Prop
 | .non,u=>u=aS
 | .bl b,u=>u=lJ b
 | .int i,u=>∃t,u=iD i t
 | .str x,u=>∃t,u=lp x t
 | .byt b,u=>∃t,u=Value.bytes b t
 | .flt b,u=>∃t,u=pA b t
 | .ref a,u=>u=b7 a
 | .ty n,u=>u=fT n
noncomputable abbrev jI:List V->List ah->Prop:=dJ jK
theorem jI.length {xs:List V}{us:List ah}(r:jI xs us):xs.length=us.length:=aX r
theorem jI.get:∀{xs:List V}{us:List ah}{i:Nat}{x:V},jI xs us->xs[i]? = some x->∃u,us[i]? = some u/\jK x u
 | _,_,_,_,.nil,e=>by simp at e
 | _,_,0,_,.cons r _,e=>by simp at e;subst e;exact ⟨_,rfl,r⟩
 | _,_,i+1,x,.cons _ t,e=>by
  obtain ⟨u,h1,h2⟩:=jI.get (i:=i) (x:=x) t (by simpa using e)
  exact ⟨u,by simpa using h1,h2⟩
theorem jI.set {x:V}{u:ah}(r:jK x u):∀{xs:List V}{us:List ah}(i:Nat),jI xs us->jI (xs.set i x) (us.set i u)
 | _,_,_,.nil=>.nil
 | _,_,0,.cons _ t=>.cons r t
 | _,_,i+1,.cons q t=>.cons q (jI.set r i t)
theorem jI.append:∀{xs ys:List V}{us ws:List ah},jI xs us->jI ys ws->jI (xs++ys) (us++ws)
 | _,_,_,_,.nil,s=>s
 | _,_,_,_,.cons r t,s=>.cons r (jI.append t s)
theorem jI.take:∀{xs:List V}{us:List ah}(n:Nat),jI xs us->jI (xs.take n) (us.take n)
 | _,_,0,_=>.nil
 | _,_,_+1,.nil=>.nil
 | _,_,n+1,.cons r t=>.cons r (jI.take n t)
theorem jI.drop:∀{xs:List V}{us:List ah}(n:Nat),jI xs us->jI (xs.drop n) (us.drop n)
 | _,_,0,r=>r
 | _,_,_+1,.nil=>.nil
 | _,_,n+1,.cons _ t=>jI.drop n t
noncomputable def yQ:Option V->Option ah->Prop
 | some v,some u=>jK v u
 | none,none=>True
 | _,_=>False
noncomputable def KV {κ:Type}:List (κ×V)->List (κ×ah)->Prop:=dJ λ(p:κ×V) (q:κ×ah)=>p.1=q.1/\jK p.2 q.2
noncomputable def kV:Key->V
 | .inl i=>.int i
 | .inr x=>.str x
inductive HO where
  | lst (xs:List V)
  | tup (xs:List V)
  | dK (kvs:List (Key×V)) | dT (kvs:List (List Key×V))
  | set (S:Int->Bool) (n:Nat)
  | ins (C dx:Addr) (fs:List (Str×V))
  | own (x:Addr)
  | xd (fs:List (Str×V))
  | met (f x:Addr)
  | rng (lo hi:Int)
  | frz (o:Obj) (u:HO)
  | tbl (ps:Array ah)
  | ext (φ:Heap->Prop)
noncomputable abbrev Hp:=Addr->Option HO
noncomputable def upd (H:Hp) (a:Addr) (o:HO):Hp:=λb=>if b=a then some o else H b
theorem j8 {H:Hp}{a:Addr}{o:HO}:upd H a o a=some o:=by unfold upd;rw [if_pos rfl]
theorem ja {H:Hp}{a b:Addr}{o:HO}(h:b≠a):upd H a o b=H b:=by unfold upd;rw [if_neg h]
theorem jp {H:Hp}{a b:Addr}{o u:HO}(h:H a=some o) (h':H b=some u) (d:o≠u):a≠b:=by
 intro e;subst e;rw [h] at h';exact d (bg h')
theorem j4 {H:Hp}{a b:Addr}{o:HO}(h:H a=some o) (h':H b=none):a≠b:=by
 intro e;subst e;rw [h] at h';cases h'
section
variable (P:Program) (w:aU)
noncomputable def qw (H:Hp) (h:Heap) (a:Addr):HO->Prop
 | .lst xs=>xs.length<=sizeLine/\∃(its:List ah) (n:Nat),jI xs its/\h.get? a=some { cls:=.type "list",data:=.seq its.toArray n }
 | .tup xs=>xs.length<=sizeLine/\∃its:List ah,jI xs its/\rf h a its.toArray
 | .dK kvs=>kvs.length<=sizeLine/\(a == dW)=false/\∃vs,KV kvs vs/\h.DictOf (jV P w) a vs
 | .dT kvs=>kvs.length<=sizeLine/\(a == dW)=false/\∃xs:List (List Key×Addr×ah),
   dJ (λ(p:List Key×V) (q:List Key×Addr×ah)=>p.1=q.1/\H q.2.1=some (.tup (p.1.map kV))/\jK p.2 q.2.2) kvs xs /\
   ∃o es ep,h.get? a=some o/\o.ExactDict/\o.data = .dict es ep/\es.toList=xs.map (entryOfKey (mL (jV P w)))/\(xs.map (·.1)).Nodup
 | .set S n=>h.SetOf (intKind P w) a S n
 | .ins C dx fs=>H dx=some (.own a)/\fs.length<=1000/\dx≠a/\h.get? a=some (d5 C dx) /\
   ∃mA,h.Ns1 dx mA/\(∀f,yQ (fs.lookup f) (mA f))/\o9 mA (fs.map (·.1))
 | .own _=>∃o,h.get? a=some o
 | .xd fs=>∃mA,h.Ns1 a mA/\∀f,yQ (fs.lookup f) (mA f)
 | .rng lo hi=>∃t u v,h.get? a=some { cls:=.type "range",data:=.fields #[.int lo t,.int hi u,.int 1 v] }
 | .frz o u=>h.get? a=some o/\qw H h a u
 | .tbl ps=>h.get? a=some { cls:=.none,data:=.fields ps }
 | .met f x=>h.get? a=some (iV (.ref f) (.ref x))
 | .ext φ=>φ h/\(∃o,h.get? a=some o)/\∀h1 h2:Heap,φ h1->(∀o,h1.get? a=some o->h2.get? a=some o)->φ h2
noncomputable def HOk (H:Hp) (h:Heap):Prop:=∀a o,H a=some o->qw P w H h a o
end
section
variable {P:Program}{w:aU}{H H':Hp}{h h':Heap}{a:Addr}{o:HO}
theorem qw.lt (x:qw P w H h a o):a<h.objs.size:=by
 cases o with
 | lst xs=>obtain ⟨_,_,_,_,e⟩:=x;exact aw e
 | tup xs=>obtain ⟨_,_,_,p⟩:=x;exact p.lt
 | dK kvs=>obtain ⟨_,_,_,_,o,_,_,e,_⟩:=x;exact aw e
 | dT kvs=>obtain ⟨_,_,_,_,o,_,_,e,_⟩:=x;exact aw e
 | set S n=>obtain ⟨o,_,_,_,e,_⟩:=x;exact aw e
 | ins C dx fs=>obtain ⟨_,_,_,e,_⟩:=x;exact aw e
 | own y=>obtain ⟨_,e⟩:=x;exact aw e
 | xd fs=>obtain ⟨_,⟨_,_,_,e,_⟩,_⟩:=x;exact aw e
 | rng lo hi=>obtain ⟨_,_,_,e⟩:=x;exact aw e
 | frz ob u=>obtain ⟨e,_⟩:=x;exact aw e
 | tbl ps=>exact aw (show h.get? a=some _ from x)
 | met f y=>exact aw (show h.get? a=some _ from x)
 | ext φ=>obtain ⟨_,⟨_,e⟩,_⟩:=x;exact aw e
theorem Paired.mapP {α β:Type}{F G:α->β->Prop}:∀{l₁:List α}{l₂:List β},dJ F l₁ l₂->(∀a b,F a b->G a b)->dJ G l₁ l₂
 | _,_,.nil,_=>.nil
 | _,_,.cons r t,f=>.cons (f _ _ r) (Paired.mapP t f)
theorem qw.stay (x:qw P w H h a o) (k:∀b u,(b=a\/H b=some (.own a))->h.get? b=some u->h'.get? b=some u)
  (ho:∀b,H b=some (.own a)->H' b=some (.own a)) (ht:∀b xs,H b=some (.tup xs)->H' b=some (.tup xs)):qw P w H' h' a o:=by
 induction o with
 | lst xs=>obtain ⟨z,its,n,r,e⟩:=x;exact ⟨z,its,n,r,k _ _ (.inl rfl) e⟩
 | tup xs=>obtain ⟨z,its,r,ob,e,c⟩:=x;exact ⟨z,its,r,ob,k _ _ (.inl rfl) e,c⟩
 | dK kvs=>obtain ⟨z,y,vs,r,ob,es,ep,e,c⟩:=x;exact ⟨z,y,vs,r,ob,es,ep,k _ _ (.inl rfl) e,c⟩
 | dT kvs =>
  obtain ⟨z,y,xs,r,ob,es,ep,e,c⟩:=x
  exact ⟨z,y,xs,Paired.mapP r λp q z=>⟨z.1,ht _ _ z.2.1,z.2.2⟩,ob,es,ep,k _ _ (.inl rfl) e,c⟩
 | set S n=>obtain ⟨ob,es,ep,t,e,c⟩:=x;exact ⟨ob,es,ep,t,k _ _ (.inl rfl) e,c⟩
 | ins C dx fs =>
  obtain ⟨d,z,ne,e,mA,⟨od,es,ep,e2,c⟩,r⟩:=x
  exact ⟨ho _ d,z,ne,k _ _ (.inl rfl) e,mA,⟨od,es,ep,k _ _ (.inr d) e2,c⟩,r⟩
 | own y=>obtain ⟨ob,e⟩:=x;exact ⟨ob,k _ _ (.inl rfl) e⟩
 | xd fs=>obtain ⟨mA,⟨od,es,ep,e,c⟩,r⟩:=x;exact ⟨mA,⟨od,es,ep,k _ _ (.inl rfl) e,c⟩,r⟩
 | rng lo hi=>obtain ⟨t,u,v,e⟩:=x;exact ⟨t,u,v,k _ _ (.inl rfl) e⟩
 | frz ob u ih=>obtain ⟨e,q⟩:=x;exact ⟨k _ _ (.inl rfl) e,ih q⟩
 | tbl ps =>
  have e:h.get? a=some { cls:=.none,data:=.fields ps }:=x
  show h'.get? a=some { cls:=.none,data:=.fields ps }
  exact k a _ (.inl rfl) e
 | met f y =>
  have e:h.get? a=some (iV (.ref f) (.ref y)):=x
  show h'.get? a=some (iV (.ref f) (.ref y))
  exact k a _ (.inl rfl) e
 | ext φ=>obtain ⟨p,⟨o,e⟩,st⟩:=x;exact ⟨st _ _ p λo q=>k _ _ (.inl rfl) q,⟨o,k _ _ (.inl rfl) e⟩,st⟩
theorem HOk.lt (x:HOk P w H h) (e:H a=some o):a<h.objs.size:=(x a o e).lt
theorem HOk.fresh (x:HOk P w H h) (e:h.objs.size<=a):H a=none:=by
 cases q:H a with
 | none=>rfl
 | some u=>exact absurd (aI (x.lt q) e) (cw _)
theorem HOk.kept (x:HOk P w H h) (k:∀b u,h.get? b=some u->h'.get? b=some u):HOk P w H h':=λa o e =>
 (x a o e).stay (λb u _ q=>k b u q) (λ_ q=>q) λ_ _ q=>q
theorem HOk.laid (x:HOk P w H h) (k:∀b u,h.get? b=some u->h'.get? b=some u) (hp:h.objs.size<=a) (new:qw P w (upd H a o) h' a o):HOk P w (upd H a o) h':=λb u e=>by
 have hn:=x.fresh hp
 by_cases hb:b=a
 ·subst hb;rw [j8] at e;cases e;exact new
 ·rw [ja hb] at e
  exact (x b u e).stay (λc v _ q=>k c v q) (λc q=>by rw [ja (j4 q hn)];exact q) λc xs q=>by rw [ja (j4 q hn)];exact q
end
noncomputable def Rd (H:Hp) (a:Addr) (u:HO):Prop:=H a=some u\/∃o,H a=some (.frz o u)
theorem Rd.ok {P:Program}{w:aU}{H:Hp}{h:Heap}{a:Addr}{u:HO}(r:Rd H a u) (x:HOk P w H h):qw P w H h a u:=by
 rcases r with r | ⟨o,r⟩
 ·exact x a u r
 ·obtain ⟨_,q⟩:=x a _ r
  exact q
noncomputable def Mut:Option HO->Prop
 | some (.lst _)=>True
 | some (.dK _)=>True
 | some (.dT _)=>True
 | some (.set _ _)=>True
 | some (.ins _ _ _)=>True
 | some (.ext _)=>True
 | _=>False
section
variable {P:Program}{w:aU}{H:Hp}{h h':Heap}{x e:Addr}{o':HO}
theorem HOk.write (ok:HOk P w H h) (mu:Mut (H x)) (he:e=x\/H e=some (.own x)) (k:∀b u,b≠e->h.get? b=some u->h'.get? b=some u) (heo:∃u,h'.get? e=some u)
  (new:qw P w (upd H x o') h' x o'):HOk P w (upd H x o') h':=λb u q=>by
 have nown:∀c y,H c=some (.own y)->c≠x:=λc y r z=>by subst z;rw [r] at mu;exact mu
 have ntup:∀c xs,H c=some (.tup xs)->c≠x:=λc xs r z=>by subst z;rw [r] at mu;exact mu
 by_cases hb:b=x
 ·subst hb;rw [j8] at q;cases q;exact new
 ·rw [ja hb] at q
  by_cases hbe:b=e
  ·have q':H b=some (.own x):=by
    rcases he with z | z
    ·exact absurd (hbe.trans z) hb
    ·rw [hbe];exact z
   rw [q] at q';cases q'
   obtain ⟨v,hv⟩:=heo
   exact ⟨v,by rw [hbe];exact hv⟩
  ·refine (ok b u q).stay (λc v hc r=>k c v ?_ r) (λc r=>by rw [ja (nown c b r)];exact r) λc xs r=>by rw [ja (ntup c xs r)];exact r
   rcases hc with rfl | hc
   ·exact hbe
   ·rintro rfl
    rcases he with z | z
    ·exact nown c b hc z
    ·rw [hc] at z;cases z;exact hb rfl
end
structure Un (fs ex:List Addr) (H H':Hp) (h h':Heap):Prop where
 keep:∀b o,h.get? b=some o->H b=none->b∉fs->b∉ex->h'.get? b=some o
 slot:∀b o,h.get? b=some o->H b=none->b∈fs->b∉ex->∃sl,h'.get? b=some { o with slots:=sl }
 free:∀b o,h.get? b=some o->H b=none->b∉ex->H' b=none
 there:∀b o,h.get? b=some o->b∉ex->∃o',h'.get? b=some o'
 tups:∀b xs,H b=some (.tup xs)->H' b=some (.tup xs)
 frzs:∀b o u,H b=some (.frz o u)->H' b=some (.frz o u)
 tbls:∀b ps,H b=some (.tbl ps)->∃more,H' b=some (.tbl (ps++more))
section
variable {fs fs' ex ex':List Addr}{H H1 H2:Hp}{h h1 h2 h':Heap}{a x e:Addr}{o:HO}
theorem Un.any (u:Un fs ex H H1 h h1) {b:Addr}{ob:Obj}(q:h.get? b=some ob) (n:H b=none) (hx:b∉ex):∃sl,h1.get? b=some { ob with slots:=sl }:=by
 by_cases hb:b∈fs
 ·exact u.slot b ob q n hb hx
 ·exact ⟨ob.slots,u.keep b ob q n hb hx⟩
theorem Un.kept (k:∀b u,h.get? b=some u->h'.get? b=some u):Un fs ex H H h h' :=
 ⟨λb ob q _ _ _=>k b ob q,λb ob q _ _ _=>⟨ob.slots,k b ob q⟩,λ_ _ _ n _=>n,λb ob q _=>⟨ob,k b ob q⟩,λ_ _ q=>q,λ_ _ _ q=>q,λ_ ps q=>⟨#[],by rw [q];simp⟩⟩
theorem Un.refl:Un fs ex H H h h:=Un.kept λ_ _ q=>q
theorem Un.laid (k:∀b u,h.get? b=some u->h'.get? b=some u) (hp:h.objs.size<=a) (hn:H a=none):Un fs ex H (upd H a o) h h' where
 keep:=λb u q _ _ _=>k b u q
 slot:=λb u q _ _ _=>⟨u.slots,k b u q⟩
 free:=λb u q n _=>by rw [ja (aB (aI (aw q) hp))];exact n
 there:=λb u q _=>⟨u,k b u q⟩
 tups:=λb xs q=>by rw [ja (j4 q hn)];exact q
 frzs:=λb u xs q=>by rw [ja (j4 q hn)];exact q
 tbls:=λb ps q=>⟨#[],by rw [ja (j4 q hn),q];simp⟩
theorem Un.write (mu:Mut (H x)) (he:e=x\/H e=some (.own x)) (k:∀b u,b≠e->h.get? b=some u->h'.get? b=some u) (heo:∃u,h'.get? e=some u):Un fs ex H (upd H x o) h h':=by
 have hx:∀b,H b=none->b≠x:=λb n z=>by subst z;rw [n] at mu;exact mu
 have hb:∀b,H b=none->b≠e:=λb n z=>by
  subst z
  rcases he with r | r
  ·exact hx b n r
  ·rw [n] at r;cases r
 have hm:∀b u,H b=some u->¬Mut (some u)->b≠x:=λb u q nm z=>by subst z;rw [q] at mu;exact nm mu
 refine ⟨λb u q n _ _=>k b u (hb b n) q,λb u q n _ _=>⟨u.slots,k b u (hb b n) q⟩,λb u q n _=>by rw [ja (hx b n)];exact n,λb u q _=>?_,
  λb xs q=>by rw [ja (hm b _ q λz=>z)];exact q,λb u xs q=>by rw [ja (hm b _ q λz=>z)];exact q,λb ps q=>⟨#[],by rw [ja (hm b _ q λz=>z),q];simp⟩⟩
 by_cases hbe:b=e
 ·subst hbe;exact heo
 ·exact ⟨u,k b u hbe q⟩
end
noncomputable def trk (h:Heap) (H:Hp):List Addr:=(aV h.objs.size).filter λa=>(H a).isSome
noncomputable def kZ (h:Heap) (H:Hp):Heap:=PySem.W.hideAll h (trk h H)
theorem Y1 (h:Heap) (H:Hp):(kZ h H).objs.size=h.objs.size:=PySem.W.hideAll_size _ _
theorem Vg {h:Heap}{H:Hp}{b:Addr}{o:Obj}(e:h.get? b=some o) (n:H b=none):(kZ h H).get? b=some o :=
 PySem.W.hideAll_get _ e λhm=>by
  have q:(H b).isSome=true:=(List.mem_filter.mp hm).2
  rw [n] at q;simp at q
theorem VA {h:Heap}{H:Hp}{b:Addr}{o:Obj}(e:(kZ h H).get? b=some o):h.get? b=some o/\H b=none:=by
 have e':h.get? b=some o:=PySem.W.of_hideAll (trk h H) e
 refine ⟨e',?_⟩
 cases q:H b with
 | none=>rfl
 | some x =>
  have hm:b∈trk h H:=List.mem_filter.mpr ⟨List.mem_range.mpr (aw e'),by simp [q]⟩
  have z:(kZ h H).get? b=none:=PySem.W.hideAll_none (trk h H) hm
  rw [z] at e;cases e
noncomputable def Uk (g h:Heap) (L:Addr):List (Addr×Obj):=(aV h.objs.size).filterMap λa=>if a=L\/(g.get? a).isSome=true then none else (h.get? a).map λo=>(a,o)
noncomputable def vK (g h:Heap) (L d:Addr):List (Addr×Obj):=(Uk g h L).filter λp=>decide (p.1≠d)
end L2
namespace L2
structure Mod (K:ai) (mg:Str->Option ah) (base:Heap):Prop where
 kin:K.In base
 glob:base.Ns mainGlobals mg
 blt:∃mb,base.Ns lK mb/\∀x:Str,x ≠ "__name__" -> mb x=eR x
 nolimit:base.NoLimit
structure Cx where
 prog:Program
 w:aU
 K:ai
 mg:Str->Option ah
 base:Heap
 A:b9
 N:List Str
 s₀:Shared
 H₀:Hp
 env:Env
 outer:List Env
 stack:List Env
 ex:List Addr
 fn:Str->Bool
 calm:Bool
 pn:List (Addr×Obj)
 xe:ah->Shared->Prop
noncomputable def frs (l:List Env):List Addr:=l.filterMap (·.frame)
noncomputable abbrev Cx.fs (X:Cx):List Addr:=frs X.outer
noncomputable def Vis (sc:Scope) (x:Str):Prop:=sc.names.lookup x=some .local\/sc.names.lookup x=some .cell\/sc.names.lookup x=some .free
noncomputable def Loc (sc:Scope) (x:Str):Prop:=sc.names.lookup x=some .local\/sc.names.lookup x=some .cell
noncomputable def Look (env:Env) (h:Heap) (m:Str->Option ah) (x:Str) (u:ah):Prop :=
 (env.kindOf x=some .local/\m x=some u)\/((env.kindOf x=some .cell\/env.kindOf x=some .free)/\∃c,env.cells.lookup x=some c/\h.IsCell c (some u))
structure Cx.Ok (X:Cx):Prop where
 mod:Mod X.K X.mg X.base
 kind:X.env.scope.kind = .function
 glob:X.env.globals=mainGlobals
 blt:X.env.builtins=lK
 above:X.s₀.heap.objs.size<=X.env.locals
 inj:∀x y c,X.env.cells.lookup x=some c->X.env.cells.lookup y=some c->x=y
 has:∀x,(X.env.kindOf x=some .cell\/X.env.kindOf x=some .free)->∃c,X.env.cells.lookup x=some c
 cab:∀x c,X.fn x=true->X.env.cells.lookup x=some c->X.s₀.heap.objs.size<=c
 hd:X.calm=true->X.A.handled=none
 frames:X.A.frames=some X.stack
 stk:X.stack=X.outer\/(X.stack=X.env::X.outer/\X.env.frame=some X.env.locals)
 exf:∀b∈X.ex,b≠X.env.locals/\∀x c,X.env.cells.lookup x=some c->c≠b
 bs:∀b o,X.base.get? b=some o->X.s₀.heap.get? b=some o/\X.H₀ b=none
 bsz:X.base.objs.size<=X.s₀.heap.objs.size
 noex:∀b o,X.base.get? b=some o->b∉X.ex
 exfs:∀b∈X.ex,b∉X.fs
 funs:X.s₀.heap.FunFrames X.base X.outer
 frf:∀b∈X.fs,X.H₀ b=none
structure Inv (X:Cx) (pins:List (Addr×Obj)) (σ:List (Option V)) (H:Hp) (s:Shared):Prop where
 ok:X.Ok
 os:s.os=X.s₀.os
 bare:fY s.gens
 base:Un X.fs X.ex X.H₀ H X.s₀.heap s.heap
 loc:∃m,s.heap.Ns X.env.locals m/\∀(i:Nat) (x:Str) (v:V),X.N[i]? = some x->σ[i]? = some (some v)->Vis X.env.scope x->∃u,jK v u/\Look X.env s.heap m x u
 cell:∀x c,X.env.cells.lookup x=some c->∃v,s.heap.IsCell c v
 free:H X.env.locals=none
 freeC:∀x c,X.env.cells.lookup x=some c->H c=none
 pin:∀p∈X.pn++pins,s.heap.get? p.1=some p.2/\H p.1=none/\p.1≠X.env.locals/\p.1∉X.fs/\∀v,p.2.data≠.cell v
 hok:HOk X.prog X.w H s.heap
 len:σ.length=X.N.length
section
variable {X:Cx}{pins:List (Addr×Obj)}{σ:List (Option V)}{H H':Hp}{s:Shared}{h':Heap}
theorem Cx.Ok.nofr (ok:X.Ok) {b:Addr}{o:Obj}(e:X.base.get? b=some o):b∉X.fs:=λhb=>by
 have:=(ok.funs.mem hb).1
 rw [e] at this;cases this
theorem Inv.bs (I:Inv X pins σ H s):∀b o,X.base.get? b=some o->s.heap.get? b=some o/\H b=none:=λb o e =>
 ⟨I.base.keep b o (I.ok.bs b o e).1 (I.ok.bs b o e).2 (I.ok.nofr e) (I.ok.noex b o e),I.base.free b o (I.ok.bs b o e).1 (I.ok.bs b o e).2 (I.ok.noex b o e)⟩
theorem Inv.bk (I:Inv X pins σ H s):∀b o,X.base.get? b=some o->s.heap.get? b=some o:=λb o e=>(I.bs b o e).1
theorem Inv.mod (I:Inv X pins σ H s):Mod X.K X.mg X.base:=I.ok.mod
theorem Inv.kIn (I:Inv X pins σ H s):X.K.In s.heap:=I.ok.mod.kin.keeps I.bk
theorem Inv.lt (I:Inv X pins σ H s):X.env.locals<s.heap.objs.size:=let ⟨_,hn,_⟩:=I.loc;hn.lt
theorem Inv.sz (I:Inv X pins σ H s):X.s₀.heap.objs.size<=s.heap.objs.size:=aF I.ok.above (cV I.lt)
theorem Inv.nofs (I:Inv X pins σ H s) {a:Addr}(h:s.heap.objs.size<=a):a∉X.fs:=λhb=>by
 obtain ⟨_,o,ho,_⟩:=I.ok.funs.mem hb
 exact absurd (aI (aw ho) (aF I.sz h)) (cw _)
theorem Inv.cne (I:Inv X pins σ H s):∀x c,X.env.cells.lookup x=some c->c≠X.env.locals:=λx c e z=>by
 obtain ⟨v,o,ho,hd⟩:=I.cell x c e
 obtain ⟨m,⟨o',es,ep,ho',hd',_⟩,_⟩:=I.loc
 rw [z,ho'] at ho;cases ho;rw [hd'] at hd;cases hd
theorem Inv.funs (I:Inv X pins σ H s):s.heap.FunFrames X.base X.outer:=by
 have all:∀(l:List Env),(∀b∈frs l,b∈X.fs)->X.s₀.heap.FunFrames X.base l->s.heap.FunFrames X.base l:=by
  intro l
  induction l with
  | nil=>intro _ _;trivial
  | cons env r ih =>
   intro hs hl
   obtain ⟨hk,⟨L,o,hf,hn,ho,hd⟩,hr⟩:=hl
   have hL:L∈X.fs:=hs L (by unfold frs;rw [eX,hf];exact bh)
   obtain ⟨sl,e⟩:=I.base.slot L o ho (I.ok.frf L hL) hL λz=>I.ok.exfs L z hL
   exact ⟨hk,⟨L,_,hf,hn,e,hd⟩,ih (λb hb=>hs b (by unfold frs;rw [eX,hf];exact aK _ hb)) hr⟩
 exact all X.outer (λ_ hb=>hb) I.ok.funs
theorem Inv.stack (I:Inv X pins σ H s):s.heap.FunFrames X.base X.stack:=by
 rcases I.ok.stk with e | ⟨e,hf⟩
 ·rw [e];exact I.funs
 ·rw [e]
  obtain ⟨m,hn,_⟩:=I.loc
  refine .cons (by rw [I.ok.kind];decide) hf hn ?_ I.funs
  exact Heap.get?_none_of_le (aF I.ok.bsz I.ok.above)
theorem Inv.stkSub (I:Inv X pins σ H s):∀b∈frs X.stack,b∈X.env.locals::X.fs:=λb hb=>by
 rcases I.ok.stk with e | ⟨e,hf⟩
 ·rw [e] at hb;exact aK _ hb
 ·rw [e] at hb
  unfold frs at hb
  rw [eX,hf] at hb
  exact hb
theorem Inv.stkFree (I:Inv X pins σ H s):∀b∈frs X.stack,H b=none:=λb hb=>by
 rcases List.mem_cons.mp (I.stkSub b hb) with e | hb
 ·rw [e];exact I.free
 ·obtain ⟨_,o,ho,_⟩:=I.ok.funs.mem hb
  exact I.base.free b o ho (I.ok.frf b hb) λz=>I.ok.exfs b z hb
theorem Inv.step {g':Array sG}{t':Nat}{d':Drawn}{ch:List Addr}(I:Inv X pins σ H s)
  (hch:∀b∈ch,(b∈X.ex\/X.s₀.heap.objs.size<=b)/\b≠X.env.locals/\(∀x c,X.env.cells.lookup x=some c->c≠b)/\∀p∈X.pn++pins,p.1≠b)
  (keep:∀b o,b≠X.env.locals->b∉X.fs->b∉ch->s.heap.get? b=some o->H b=none->h'.get? b=some o)
  (slot:∀b o,b≠X.env.locals->b∈X.fs->b∉ch->s.heap.get? b=some o->H b=none->∃sl,h'.get? b=some { o with slots:=sl }) (free:∀b o,b∉ch->s.heap.get? b=some o->H b=none->H' b=none)
  (there:∀b o,b∉ch->s.heap.get? b=some o->∃o',h'.get? b=some o')
  (tups:∀b xs,H b=some (.tup xs)->H' b=some (.tup xs)) (frzs:∀b o u,H b=some (.frz o u)->H' b=some (.frz o u)) (tbls:∀b ps,H b=some (.tbl ps)->∃more,H' b=some (.tbl (ps++more)))
  (ns:∀m,s.heap.Ns X.env.locals m->h'.Ns X.env.locals m) (hok:HOk X.prog X.w H' h') (hg:fY g') :
  Inv X pins σ H' { s with heap:=h',gens:=g',drawn:=d',toks:=t' }:=by
 have neL:∀b o,X.s₀.heap.get? b=some o->b≠X.env.locals:=λb o e=>aB (aI (aw e) I.ok.above)
 have neC:∀b o,X.s₀.heap.get? b=some o->b∉X.ex->b∉ch:=λb o e hx hb=>by
  rcases (hch b hb).1 with z | z
  ·exact hx z
  ·exact absurd (aI (aw e) z) (cw _)
 have cellK:∀x c,X.env.cells.lookup x=some c->∀v,s.heap.IsCell c v->h'.IsCell c v:=λx c e v ⟨o,ho,hd⟩=>by
  have nch:c∉ch:=λz=>(hch c z).2.2.1 x c e rfl
  by_cases hc:c∈X.fs
  ·obtain ⟨sl,q⟩:=slot c o (I.cne x c e) hc nch ho (I.freeC x c e)
   exact ⟨_,q,hd⟩
  ·exact ⟨o,keep c o (I.cne x c e) hc nch ho (I.freeC x c e),hd⟩
 refine ⟨I.ok,I.os,hg,⟨λb o e n hb hx=>?_,λb o e n hb hx=>?_,λb o e n hx=>?_,λb o e hx=>?_,λb xs e=>tups b xs (I.base.tups b xs e),λb o xs e=>frzs b o xs (I.base.frzs b o xs e),λb ps e=>?_⟩,?_,λx c e=>?_,?_,λx c e=>?_,λp hp=>?_,hok,I.len⟩
 ·exact keep b o (neL b o e) hb (neC b o e hx) (I.base.keep b o e n hb hx) (I.base.free b o e n hx)
 ·obtain ⟨sl,e1⟩:=I.base.slot b o e n hb hx
  obtain ⟨sl',e2⟩:=slot b _ (neL b o e) hb (neC b o e hx) e1 (I.base.free b o e n hx)
  exact ⟨sl',e2⟩
 ·obtain ⟨o',e1⟩:=I.base.there b o e hx
  exact free b o' (neC b o e hx) e1 (I.base.free b o e n hx)
 ·obtain ⟨o',e1⟩:=I.base.there b o e hx
  exact there b o' (neC b o e hx) e1
 ·obtain ⟨m1,e1⟩:=I.base.tbls b ps e
  obtain ⟨m2,e2⟩:=tbls b _ e1
  exact ⟨m1++m2,by rw [e2,Array.append_assoc]⟩
 ·obtain ⟨m,hn,hl⟩:=I.loc
  refine ⟨m,ns m hn,λi x v e1 e2 e3=>?_⟩
  obtain ⟨u,r,l⟩:=hl i x v e1 e2 e3
  refine ⟨u,r,?_⟩
  rcases l with l | ⟨k,c,e,z⟩
  ·exact .inl l
  ·exact .inr ⟨k,c,e,cellK x c e _ z⟩
 ·obtain ⟨v,z⟩:=I.cell x c e
  exact ⟨v,cellK x c e v z⟩
 ·obtain ⟨m,⟨o,_,_,ho,_⟩,_⟩:=I.loc
  exact free _ o (λz=>(hch _ z).2.1 rfl) ho I.free
 ·obtain ⟨v,o,ho,hd⟩:=I.cell x c e
  exact free c o (λz=>(hch c z).2.2.1 x c e rfl) ho (I.freeC x c e)
 ·obtain ⟨e,n,ne,nf,d⟩:=I.pin p hp
  have nch:p.1∉ch:=λz=>(hch p.1 z).2.2.2 p hp rfl
  exact ⟨keep p.1 p.2 ne nf nch e n,free p.1 p.2 nch e n,ne,nf,d⟩
theorem Inv.un {t':Nat}(I:Inv X pins σ H s) (u:Un X.fs [] H H' s.heap h') (hok:HOk X.prog X.w H' h'):Inv X pins σ H' { s with heap:=h',toks:=t' }:=by
 obtain ⟨m,⟨o,es,ep,ho,r⟩,_⟩:=id I.loc
 obtain ⟨sl,hL⟩:=u.any ho I.free (by simp)
 exact I.step (g':=s.gens) (d':=s.drawn) (ch:=[]) (λ_ z=>nomatch z) (λb o _ hb _ e n=>u.keep b o e n hb (by simp)) (λb o _ hb _ e n=>u.slot b o e n hb (by simp)) (λb o _ e n=>u.free b o e n (by simp)) (λb o _ e=>u.there b o e (by simp)) u.tups u.frzs u.tbls (λm' hm=>by
  obtain ⟨o',es',ep',ho',r'⟩:=hm
  rw [ho] at ho';cases ho'
  exact ⟨_,es',ep',hL,r'⟩) hok I.bare
theorem Inv.call {g':Array sG}{t':Nat}{d':Drawn}{ch:List Addr}(I:Inv X pins σ H s) (u:Un (frs X.stack) ch H H' s.heap h') (hok:HOk X.prog X.w H' h') (hg:fY g')
  (hch:∀b∈ch,(b∈X.ex\/X.s₀.heap.objs.size<=b)/\b≠X.env.locals/\(∀x c,X.env.cells.lookup x=some c->c≠b)/\∀p∈X.pn++pins,p.1≠b) :
  Inv X pins σ H' { s with heap:=h',gens:=g',drawn:=d',toks:=t' }:=by
 obtain ⟨m,⟨o,es,ep,ho,r⟩,_⟩:=id I.loc
 obtain ⟨sl,hL⟩:=u.any ho I.free λz=>(hch _ z).2.1 rfl
 exact I.step (ch:=ch) hch (λb o hL hb hc e n=>u.keep b o e n (λz=>(List.mem_cons.mp (I.stkSub b z)).elim hL hb) hc) (λb o _ _ hc e n=>u.any e n hc) (λb o hc e n=>u.free b o e n hc) (λb o hc e=>u.there b o e hc) u.tups u.frzs u.tbls (λm' hm=>by
  obtain ⟨o',es',ep',ho',r'⟩:=hm
  rw [ho] at ho';cases ho'
  exact ⟨_,es',ep',hL,r'⟩) hok hg
theorem Inv.turned {t':Nat}{it:Addr}(I:Inv X pins σ H s) (k:∀b o,b≠it->s.heap.get? b=some o->h'.get? b=some o) (hn:H it=none) (hL:it≠X.env.locals)
  (h1:it∈X.ex\/X.s₀.heap.objs.size<=it) (h2:∀x c,X.env.cells.lookup x=some c->c≠it) (h3:∀p∈X.pn++pins,p.1≠it):Inv X pins σ H { s with heap:=h',toks:=t' }:=by
 have nit:∀b u,H b=some u->b≠it:=λb u e z=>by rw [z,hn] at e;cases e
 refine I.step (g':=s.gens) (d':=s.drawn) (ch:=[it]) (λb hb=>?_) (λb o _ _ hc e _=>k b o (λz=>hc (by simp [z])) e) (λb o _ _ hc e _=>⟨o.slots,k b o (λz=>hc (by simp [z])) e⟩) (λ_ _ _ _ n=>n)
  (λb o hc e=>⟨o,k b o (λz=>hc (by simp [z])) e⟩) (λ_ _ e=>e) (λ_ _ _ e=>e) (λb ps e=>⟨#[],by rw [e];simp⟩) (λm hm=>?_) (λb u e=>?_) I.bare
 ·have e:b=it:=by simpa using hb
  subst e
  exact ⟨h1,hL,h2,h3⟩
 ·obtain ⟨o,es,ep,ho,r⟩:=hm
  exact ⟨o,es,ep,k _ o (cE hL) ho,r⟩
 ·refine (I.hok b u e).stay (λc v hc q=>k c v ?_ q) (λ_ q=>q) λ_ _ q=>q
  rcases hc with z | z
  ·rw [z];exact nit b u e
  ·exact nit c _ z
theorem Inv.tok (I:Inv X pins σ H s) (t:Nat):Inv X pins σ H { s with toks:=t }:=I.un (h':=s.heap) (t':=t) Un.refl I.hok
theorem Inv.kept {t':Nat}(I:Inv X pins σ H s) (k:∀b u,s.heap.get? b=some u->h'.get? b=some u):Inv X pins σ H { s with heap:=h',toks:=t' }:=I.un (Un.kept k) (I.hok.kept k)
theorem Inv.laid {a:Addr}{o:HO}{t':Nat}(I:Inv X pins σ H s) (k:∀b u,s.heap.get? b=some u->h'.get? b=some u) (hp:s.heap.objs.size<=a) (new:qw X.prog X.w (upd H a o) h' a o) :
  Inv X pins σ (upd H a o) { s with heap:=h',toks:=t' }:=I.un (Un.laid k hp (I.hok.fresh hp)) (I.hok.laid k hp new)
theorem Inv.write {x e:Addr}{o:HO}{t':Nat}(I:Inv X pins σ H s) (mu:Mut (H x)) (he:e=x\/H e=some (.own x)) (k:∀b u,b≠e->s.heap.get? b=some u->h'.get? b=some u) (heo:∃u,h'.get? e=some u)
  (new:qw X.prog X.w (upd H x o) h' x o):Inv X pins σ (upd H x o) { s with heap:=h',toks:=t' }:=I.un (Un.write mu he k heo) (I.hok.write mu he k heo new)
theorem Inv.pins_of {pins':List (Addr×Obj)}(I:Inv X pins σ H s) (h:∀p∈pins',s.heap.get? p.1=some p.2/\H p.1=none/\p.1≠X.env.locals/\p.1∉X.fs/\∀v,p.2.data≠.cell v):Inv X pins' σ H s :=
 ⟨I.ok,I.os,I.bare,I.base,I.loc,I.cell,I.free,I.freeC,λp hp=>(List.mem_append.mp hp).elim (λz=>I.pin p (cB _ z)) (h p),I.hok,I.len⟩
theorem kD {N:List Str}(hN:N.Nodup) {i j:Nat}{x:Str}(a:N[i]? = some x) (b:N[j]? = some x):i=j:=by
 obtain ⟨h1,e1⟩:=List.getElem?_eq_some_iff.mp a
 obtain ⟨h2,e2⟩:=List.getElem?_eq_some_iff.mp b
 exact (List.getElem_inj hN).mp (e1.trans e2.symm)
theorem gS {M:sI}{A:b9}{E:ah->Shared->Prop}{i:Nat}{x:Str}{v:V}{u:ah}{Q:Unit->Shared->Prop}(I:Inv X pins σ H s) (hN:X.N.Nodup) (hi:X.N[i]? = some x) (hx:Loc X.env.scope x) (r:jK v u)
  (h:∀s',Inv X pins (σ.set i (some v)) H s'->(∃a,dX a s.heap s'.heap/\(a=X.env.locals\/X.env.cells.lookup x=some a))->Q () s') (hf:X.fn x=true\/X.env.scope.names.lookup x=some .local:=by first | exact .inl rfl | exact .inr rfl | assumption):ay M A (storeName X.env x u) Q E s:=by
 obtain ⟨m,hn,hl⟩:=id I.loc
 have hcls:(X.env.scope.kind == .class || (X.env.scope.kind == .module && X.env.locals != X.env.globals))=false:=by rw [I.ok.kind];rfl
 have hiσ:i<σ.length:=by rw [I.len];exact (List.getElem?_eq_some_iff.mp hi).1
 have cne:=I.cne
 have tracked:∀{a:Addr} {h':Heap},(∃o,s.heap.get? a=some o/\H a=none)->dX a s.heap h'->HOk X.prog X.w H h':=λ{a h'} ha hs b ob e=>by
  obtain ⟨_,_,hfree⟩:=ha
  refine (I.hok b ob e).stay (λc w' hc q=>(hs.2 c ?_).trans q) (λ_ q=>q) λ_ _ q=>q
  rintro rfl
  rcases hc with rfl | hc
  ·rw [hfree] at e;cases e
  ·rw [hfree] at hc;cases hc
 rcases hx with hk | hk
 ·refine wpAny_storeName_local hk hn (λh' hn' hs=>?_) hcls
  obtain ⟨oL,_,_,hoL,_⟩:=id hn
  refine h _ ⟨I.ok,I.os,I.bare,⟨λb o e n hb hx=>?_,λb o e n hb hx=>?_,I.base.free,λb o e hx=>?_,I.base.tups,I.base.frzs,I.base.tbls⟩,⟨_,hn',λj y v' e1 e2 e3=>?_⟩,λy c e=>?_,I.free,I.freeC,λp hp=>?_,tracked ⟨oL,hoL,I.free⟩ hs,by simpa using I.len⟩ ⟨_,hs,.inl rfl⟩
  ·exact (hs.2 b (aB (aI (aw e) I.ok.above))).trans (I.base.keep b o e n hb hx)
  ·obtain ⟨sl,e1⟩:=I.base.slot b o e n hb hx
   exact ⟨sl,(hs.2 b (aB (aI (aw e) I.ok.above))).trans e1⟩
  ·obtain ⟨o',e1⟩:=I.base.there b o e hx
   exact ⟨o',(hs.2 b (aB (aI (aw e) I.ok.above))).trans e1⟩
  ·by_cases hj:j=i
   ·subst hj
    rw [hi] at e1;cases e1
    rw [fH hiσ] at e2
    cases e2
    exact ⟨u,r,.inl ⟨hk,by simp⟩⟩
   ·rw [i6 (cE hj)] at e2
    obtain ⟨u',r',q⟩:=hl j y v' e1 e2 e3
    refine ⟨u',r',?_⟩
    rcases q with ⟨k,e⟩ | ⟨k,c,e,z⟩
    ·refine .inl ⟨k,?_⟩
     have:y≠x:=λe=>hj (kD hN e1 (e ▸ hi))
     simp [this,e]
    ·exact .inr ⟨k,c,e,z.sameBut hs (cne y c e)⟩
  ·obtain ⟨w',z⟩:=I.cell y c e
   exact ⟨w',z.sameBut hs (cne y c e)⟩
  ·obtain ⟨e,n,ne,nf,d⟩:=I.pin p hp
   exact ⟨(hs.2 p.1 ne).trans e,n,ne,nf,d⟩
 ·have hfn:X.fn x=true:=by
   rcases hf with z | z
   ·exact z
   ·rw [z] at hk;cases hk
  obtain ⟨c,hc⟩:=I.ok.has x (.inl hk)
  obtain ⟨w',z⟩:=I.cell x c hc
  refine wpAny_storeName_cell I.ok.kind hk hc z (λh' hc' hs=>?_)
  obtain ⟨oc,hoc,hocd⟩:=id z
  refine h { s with heap:=h' } ⟨I.ok,I.os,I.bare,⟨λb o e n hb hx=>?_,λb o e n hb hx=>?_,I.base.free,λb o e hx=>?_,I.base.tups,I.base.frzs,I.base.tbls⟩,⟨m,hn.sameBut hs (cE (cne x c hc)),λj y v' e1 e2 e3=>?_⟩,λy c' e=>?_,I.free,I.freeC,λp hp=>?_,tracked ⟨oc,hoc,I.freeC x c hc⟩ hs,by simpa using I.len⟩ ⟨c,hs,.inr hc⟩
  ·exact (hs.2 b (aB (aI (aw e) (I.ok.cab x c hfn hc)))).trans (I.base.keep b o e n hb hx)
  ·obtain ⟨sl,e1⟩:=I.base.slot b o e n hb hx
   exact ⟨sl,(hs.2 b (aB (aI (aw e) (I.ok.cab x c hfn hc)))).trans e1⟩
  ·obtain ⟨o',e1⟩:=I.base.there b o e hx
   exact ⟨o',(hs.2 b (aB (aI (aw e) (I.ok.cab x c hfn hc)))).trans e1⟩
  ·by_cases hj:j=i
   ·subst hj
    rw [hi] at e1;cases e1
    rw [fH hiσ] at e2
    cases e2
    exact ⟨u,r,.inr ⟨.inl hk,c,hc,hc'⟩⟩
   ·rw [i6 (cE hj)] at e2
    obtain ⟨u',r',q⟩:=hl j y v' e1 e2 e3
    refine ⟨u',r',?_⟩
    rcases q with q | ⟨k,c',e,z'⟩
    ·exact .inl q
    ·refine .inr ⟨k,c',e,z'.sameBut hs ?_⟩
     rintro rfl
     exact hj (kD hN e1 (I.ok.inj _ _ _ e hc ▸ hi))
  ·by_cases hcc:c'=c
   ·subst hcc;exact ⟨_,hc'⟩
   ·obtain ⟨w2,z2⟩:=I.cell y c' e
    exact ⟨w2,z2.sameBut hs hcc⟩
  ·obtain ⟨e,n,ne,nf,d⟩:=I.pin p hp
   refine ⟨(hs.2 p.1 ?_).trans e,n,ne,nf,d⟩
   intro q
   rw [q,hoc] at e
   have q':oc=p.2:=bg e
   exact d w' (by rw [<- q'];exact hocd)
theorem wG {M:sI}{A:b9}{E:ah->Shared->Prop}{i:Nat}{x:Str}{v:V}{u:ah}{Q:Unit->Shared->Prop}(I:Inv X pins σ H s) (hN:X.N.Nodup) (hi:X.N[i]? = some x) (hx:Loc X.env.scope x) (r:jK v u)
  (h:∀s',Inv X pins (σ.set i (some v)) H s'->Q () s') (hf:X.fn x=true\/X.env.scope.names.lookup x=some .local:=by first | exact .inl rfl | exact .inr rfl | assumption):ay M A (storeName X.env x u) Q E s :=
 gS I hN hi hx r (λs' I' _=>h s' I') hf
theorem Inv.call' {s':Shared}{ch:List Addr}(I:Inv X pins σ H s) (ho:s'.os=s.os) (u:Un (frs X.stack) ch H H' s.heap s'.heap) (hok:HOk X.prog X.w H' s'.heap) (hg:fY s'.gens)
  (hch:∀b∈ch,(b∈X.ex\/X.s₀.heap.objs.size<=b)/\b≠X.env.locals/\(∀x c,X.env.cells.lookup x=some c->c≠b)/\∀p∈X.pn++pins,p.1≠b):Inv X pins σ H' s':=by
 obtain ⟨h',g',d',t',o'⟩:=s'
 have e:o'=s.os:=ho
 subst e
 exact I.call (g':=g') (t':=t') (d':=d') u hok hg hch
end
noncomputable abbrev XK:=ah->Option Addr->Hp->Prop
noncomputable abbrev St:=List (Option V)
noncomputable abbrev VK:=V->Hp->Prop
noncomputable abbrev TE:=St->Hp->VK->Prop
noncomputable abbrev TT:=St->Hp->(Bool->Hp->Prop)->Prop
noncomputable abbrev TA:=St->Hp->(List V->Hp->Prop)->Prop
structure Ends where
 nx:St->Hp->Prop
 rt:VK
 bk:St->Hp->Prop:=λ_ _=>False
 ct:St->Hp->Prop:=λ_ _=>False
noncomputable abbrev TS:=Ends->St->Hp->Prop
noncomputable def EP (X:Cx) (pins:List (Addr×Obj)) (σ:St) (Q:VK) (u:ah) (s':Shared):Prop:=∃v H',Inv X pins σ H' s'/\jK v u/\Q v H'
noncomputable def TP (X:Cx) (pins:List (Addr×Obj)) (σ:St) (Q:Bool->Hp->Prop) (b:Bool) (s':Shared):Prop:=∃H',Inv X pins σ H' s'/\Q b H'
noncomputable def AP (X:Cx) (pins:List (Addr×Obj)) (σ:St) (Q:List V->Hp->Prop) (us:List ah) (s':Shared):Prop:=∃vs H',Inv X pins σ H' s'/\jI vs us/\Q vs H'
noncomputable def SP (X:Cx) (pins:List (Addr×Obj)) (D:Ends) (f:Flow) (s':Shared):Prop :=
 match f with
 | .next=>∃σ' H',Inv X pins σ' H' s'/\D.nx σ' H'
 | .brk=>∃σ' H',Inv X pins σ' H' s'/\D.bk σ' H'
 | .cont=>∃σ' H',Inv X pins σ' H' s'/\D.ct σ' H'
 | .ret u=>∃v σ' H',Inv X pins σ' H' s'/\jK v u/\D.rt v H'
noncomputable def PE (X:Cx) (e:Expr) (t:TE):Prop :=
 ∀(pins:List (Addr×Obj)) (s:Shared) (σ:St) (H:Hp) (Q:VK),Inv X pins σ H s->t σ H Q->ay (aD X.prog X.w) X.A (eval e X.env) (EP X pins σ Q) X.xe s
noncomputable def PT (X:Cx) (e:Expr) (t:TT):Prop :=
 ∀(pins:List (Addr×Obj)) (s:Shared) (σ:St) (H:Hp) (Q:Bool->Hp->Prop),Inv X pins σ H s->t σ H Q->ay (aD X.prog X.w) X.A (isTrue e X.env (eval e X.env)) (TP X pins σ Q) X.xe s
noncomputable def PW (X:Cx) (e:Expr) (t:TT):Prop :=
 ∀(whole:Sem ah) (pins:List (Addr×Obj)) (s:Shared) (σ:St) (H:Hp) (Q:Bool->Hp->Prop),Inv X pins σ H s->t σ H Q->ay (aD X.prog X.w) X.A (isTrue e X.env whole) (TP X pins σ Q) X.xe s
theorem PW.pt {X:Cx}{e:Expr}{t:TT}(h:PW X e t):PT X e t:=h _
noncomputable def PA (X:Cx) (es:List Expr) (t:TA):Prop :=
 ∀(pos:Pos) (pins:List (Addr×Obj)) (s:Shared) (σ:St) (H:Hp) (Q:List V->Hp->Prop),Inv X pins σ H s->t σ H Q->ay (aD X.prog X.w) X.A (spliced (cT pos (aN es X.env))) (AP X pins σ Q) X.xe s
noncomputable def PS (X:Cx) (st:Stmt) (t:TS):Prop :=
 ∀(pins:List (Addr×Obj)) (s:Shared) (σ:St) (H:Hp) (D:Ends),Inv X pins σ H s->t D σ H->ay (aD X.prog X.w) X.A (exec st X.env) (SP X pins D) X.xe s
noncomputable def PSs (X:Cx) (st:List Stmt) (t:TS):Prop :=
 ∀(pins:List (Addr×Obj)) (s:Shared) (σ:St) (H:Hp) (D:Ends),Inv X pins σ H s->t D σ H->ay (aD X.prog X.w) X.A (execs st X.env) (SP X pins D) X.xe s
theorem thn {α:Type}{t:Sem α}{Q Q':α->Shared->Prop}{M:sI}{A:b9}{E:ah->Shared->Prop}{s:Shared}(h:ay M A t Q E s) (hQ:∀a s,Q a s->Q' a s):ay M A t Q' E s:=aW h hQ λ_ _ x=>x
end L2
namespace L2
section
variable {X:Cx}
theorem bin {a b:Expr}{ta tb:TE}(ha:PE X a ta) (hb:PE X b tb) {pins:List (Addr×Obj)}{s:Shared}{σ:St}{H:Hp}{R:V->V->Hp->Prop}(I:Inv X pins σ H s) (h:ta σ H λx H1=>tb σ H1 λy H2=>R x y H2)
  {α:Type} {Q:α->Shared->Prop} {f:ah->ah->Sem α}
  (hf:∀v u s2 x y H2,Inv X pins σ H2 s2->jK x v->jK y u->R x y H2->ay (aD X.prog X.w) X.A (f v u) Q X.xe s2) :
  ay (aD X.prog X.w) X.A (eval a X.env) (λv s₁=>ay (aD X.prog X.w) X.A (eval b X.env) (λu s₂=>ay (aD X.prog X.w) X.A (f v u) Q X.xe s₂) X.xe s₁) X.xe s:=by
 refine thn (ha pins s σ H _ I h) λv s1 ⟨x,H1,I1,r1,q1⟩=>?_
 refine thn (hb pins s1 σ H1 _ I1 q1) λu s2 ⟨y,H2,I2,r2,q2⟩=>?_
 exact hf v u s2 x y H2 I2 r1 r2 q2
noncomputable def y4 (i:Nat):TE:=λσ H Q=>∃v,σ[i]? = some (some v)/\Q v H
noncomputable def tC (v:V):TE:=λ_ H Q=>Q v H
theorem Wl {i:Nat}{x:Str}{pos:Pos}(hN:X.N[i]? = some x) (hv:Vis X.env.scope x) (hd:(x == ("__debug__" : Str))=false:=by decide) (hcd:(x == ("__classdict__" : Str))=false:=by decide):PE X (.Name x pos) (y4 i):=by
 intro pins s σ H Q I h
 obtain ⟨v,e,h⟩:=h
 obtain ⟨m,hn,hl⟩:=I.loc
 obtain ⟨u,r,l⟩:=hl i x v hN e hv
 have fin:EP X pins σ Q u s:=⟨v,H,I,r,h⟩
 rcases l with ⟨hk,hm⟩ | ⟨hk,c,hc,hcell⟩
 ·exact rg (wpAny_loadName_local I.ok.kind hk hn hm fin) hd
 ·rcases hk with hk | hk
  ·exact rg (wpAny_loadName_cell I.ok.kind hk hc hcell fin) hd
  ·exact rg (wpAny_loadName_free I.ok.kind hk hc hcell fin hcd) hd
theorem j6 {i j pos}:PE X (.Constant (.int i) j pos) (tC (.int i)):=λ_ _ _ H _ I h=>wpAny_Constant_int ⟨.int i,H,I.tok _,⟨_,rfl⟩,h⟩
theorem wb {b j pos}:PE X (.Constant (.bool b) j pos) (tC (.bl b)):=λ_ _ _ H _ I h=>Constant_bool ⟨.bl b,H,I,rfl,h⟩
theorem zy {j pos}:PE X (.Constant .none j pos) (tC .non):=λ_ _ _ H _ I h=>Constant_none ⟨.non,H,I,rfl,h⟩
theorem jc {x j pos}:PE X (.Constant (.str x) j pos) (tC (.str x)):=λ_ _ _ H _ I h=>Calls.Constant_str ⟨.str x,H,I.tok _,⟨_,rfl⟩,h⟩
noncomputable def Gl (X:Cx) (x:Str):Prop:=X.env.kindOf x=some .globalImplicit
theorem ym {E:ah->Shared->Prop}{pins:List (Addr×Obj)}{s:Shared}{σ:St}{H:Hp}{x:Str}{u:ah}{pos:Pos}{Q:ah->Shared->Prop}(I:Inv X pins σ H s) (hg:Gl X x) (hm:X.mg x=some u) (h:Q u s)
  (hd:(x == ("__debug__" : Str))=false:=by decide):ay (aD X.prog X.w) X.A (eval (.Name x pos) X.env) Q E s :=
 iG I.ok.kind hg (Calls.loadGlobal_global (by rw [I.ok.glob];exact I.mod.glob.keeps I.bk) hm h) hd
theorem yS {E:ah->Shared->Prop}{pins:List (Addr×Obj)}{s:Shared}{σ:St}{H:Hp}{x:Str}{u:ah}{pos:Pos}{Q:ah->Shared->Prop}(I:Inv X pins σ H s) (hg:Gl X x) (hm:X.mg x=none) (hv:eR x=some u) (h:Q u s)
  (hn:x ≠ "__name__":=by decide) (hd:(x == ("__debug__" : Str))=false:=by decide):ay (aD X.prog X.w) X.A (eval (.Name x pos) X.env) Q E s:=by
 obtain ⟨mb,h1,h2⟩:=I.mod.blt
 exact iG I.ok.kind hg (Calls.loadGlobal_builtin (by rw [I.ok.glob];exact I.mod.glob.keeps I.bk) hm (by rw [I.ok.blt];exact h1.keeps I.bk) ((h2 x hn).trans hv) h) hd
theorem jF {x:Str}{v:V}{u:ah}{pos:Pos}(hg:Gl X x) (hm:X.mg x=some u) (r:jK v u) (hd:(x == ("__debug__" : Str))=false:=by decide):PE X (.Name x pos) (tC v) :=
 λ_ _ _ H _ I h=>ym I hg hm ⟨v,H,I,r,h⟩ hd
theorem xg {x:Str}{v:V}{u:ah}{pos:Pos}(hg:Gl X x) (hm:X.mg x=none) (hv:eR x=some u) (r:jK v u) (hn:x ≠ "__name__":=by decide) (hd:(x == ("__debug__" : Str))=false:=by decide):PE X (.Name x pos) (tC v) :=
 λ_ _ _ H _ I h=>yS I hg hm hv ⟨v,H,I,r,h⟩ hn hd
variable {a b:Expr}{ta tb:TE}{pos:Pos}
noncomputable def PC (X:Cx) (op:rh) (a b:Expr) (t:TE):Prop :=
 ∀(pins:List (Addr×Obj)) (s:Shared) (σ:St) (H:Hp) (Q:VK),Inv X pins σ H s->t σ H Q ->
  ay (aD X.prog X.w) X.A (eval a X.env) (λv s₁=>ay (aD X.prog X.w) X.A (eval b X.env) (λu s₂=>ay (aD X.prog X.w) X.A (cu op v u) (EP X pins σ Q) X.xe s₂) X.xe s₁) X.xe s
theorem Vh (b:Expr) {op:rh}(h:op≠.In) (h2:op≠.NotIn):eB op b=false:=by
 have e1:(op == CmpOp.In)=false:=by cases op <;> first | rfl | exact absurd rfl h
 have e2:(op == CmpOp.NotIn)=false:=by cases op <;> first | rfl | exact absurd rfl h2
 cases b <;> simp [eB,e1,e2]
noncomputable def tB (t:TE):TT:=λσ H Q=>t σ H λx H1=>∃c,x = .bl c/\Q c H1
theorem JI {op:rh}{t:TE}(h:PC X op a b t) (h1:eB op b=false:=by first | exact Vh _ ⋯ ⋯ | rfl):PT X (.Compare a [op] [b] pos) (tB t):=by
 intro pins s σ H Q I hw
 refine me (thn (h pins s σ H _ I hw) λv s1 h1=>thn h1 λu s2 h2=>thn h2 λc s3 ⟨x,H1,I1,r1,q1⟩=>?_) h1
 obtain ⟨d,rfl,q⟩:=q1
 cases r1
 exact c3 ⟨H1,I1,q⟩
theorem xC {e:Expr}{t:TE}(h:PE X e t) (he:∀whole,isTrue e X.env whole=(do let v <- whole;fZ e.pos;i0 [v] (truthy v)):=by intro _;rfl):PT X e (tB t):=by
 intro pins s σ H Q I hw
 refine isTrue_plain (thn (h pins s σ H _ I hw) λv s1 ⟨x,H1,I1,r1,q1⟩=>?_) (he _)
 obtain ⟨d,rfl,q⟩:=q1
 cases r1
 exact c3 ⟨H1,I1,q⟩
variable {tA tB':TT}{vK:List Expr}
noncomputable def tAnd (t u:TT):TT:=λσ H Q=>t σ H λc H1=>if c=true then u σ H1 Q else Q false H1
noncomputable def tOr (t u:TT):TT:=λσ H Q=>t σ H λc H1=>if c=true then Q true H1 else u σ H1 Q
noncomputable def tNot (t:TT):TT:=λσ H Q=>t σ H λc H1=>Q (!c) H1
theorem zK (ha:PT X a tA):PW X (.BoolOp .And [a] pos) tA:=by
 intro wh pins s σ H Q I h
 refine isTrue_and (thn (ha pins s σ H Q I h) λc s1 e=>?_)
 cases c with
 | true=>exact isTrue_and_nil e
 | false=>exact e
theorem uB (ha:PT X a tA):PW X (.BoolOp .Or [a] pos) tA:=by
 intro wh pins s σ H Q I h
 refine isTrue_or (thn (ha pins s σ H Q I h) λc s1 e=>?_)
 cases c with
 | false=>exact isTrue_or_nil e
 | true=>exact e
theorem zU (ha:PT X a tA) (hb:PW X (.BoolOp .And (b::vK) pos) tB'):PW X (.BoolOp .And (a::b::vK) pos) (tAnd tA tB'):=by
 intro wh pins s σ H Q I h
 refine isTrue_and (thn (ha pins s σ H _ I h) λc s1 ⟨H1,I1,q1⟩=>?_)
 cases c with
 | true=>exact hb wh pins s1 σ H1 Q I1 q1
 | false=>exact ⟨H1,I1,q1⟩
theorem kB (ha:PT X a tA) (hb:PW X (.BoolOp .Or (b::vK) pos) tB'):PW X (.BoolOp .Or (a::b::vK) pos) (tOr tA tB'):=by
 intro wh pins s σ H Q I h
 refine isTrue_or (thn (ha pins s σ H _ I h) λc s1 ⟨H1,I1,q1⟩=>?_)
 cases c with
 | true=>exact ⟨H1,I1,q1⟩
 | false=>exact hb wh pins s1 σ H1 Q I1 q1
theorem qy (ha:PT X a tA):PT X (.UnaryOp .Not a pos) (tNot tA):=by
 intro pins s σ H Q I h
 exact isTrue_not (ha pins s σ H (λc H1=>Q (!c) H1) I h)
noncomputable def WD (ta tb:TE):TE:=λσ H Q=>ta σ H λx H1=>∃c,x = .bl c/\if c=true then tb σ H1 Q else Q (.bl false) H1
noncomputable def G3 (ta:TE):TE:=λσ H Q=>ta σ H λx H1=>∃c,x = .bl c/\Q (.bl (!c)) H1
theorem yb {op}{t:TE}(h:PE X a t):PE X (.BoolOp op [a] pos) t:=λpins s σ H Q I hw=>BoolOp_one (h pins s σ H Q I hw)
theorem zA (ha:PE X a ta) (hb:PE X (.BoolOp .And (b::vK) pos) tb):PE X (.BoolOp .And (a::b::vK) pos) (WD ta tb):=by
 intro pins s σ H Q I h
 refine BoolOp_and (thn (ha pins s σ H _ I h) λv s1 ⟨x,H1,I1,r1,q1⟩=>?_)
 obtain ⟨c,rfl,q1⟩:=q1
 cases r1
 refine c3 ?_
 cases c with
 | true=>exact hb pins s1 σ H1 Q I1 q1
 | false=>exact ⟨.bl false,H1,I1,rfl,q1⟩
theorem Wz (ha:PE X a ta):PE X (.UnaryOp .Not a pos) (G3 ta):=by
 intro pins s σ H Q I h
 refine UnaryOp_ (thn (ha pins s σ H _ I h) λv s1 ⟨x,H1,I1,r1,q1⟩=>?_)
 obtain ⟨c,rfl,q1⟩:=q1
 cases r1
 exact not_of (c3 ⟨.bl (!c),H1,I1,rfl,q1⟩)
end
end L2
namespace L2
noncomputable def SqL (K:ai) (H:Hp) (a:Addr) (xs:List V):Prop :=
 Rd H a (.lst xs) \/
  ∃(o:Obj) (its:Array ah) (n:Nat),K.lookup a=some o/\o.cls = .type "list" /\ o.dict=none/\o.data = .seq its n/\its.size<=sizeLine/\jI xs its.toList
noncomputable def SqT (K:ai) (H:Hp) (a:Addr) (xs:List V):Prop :=
 Rd H a (.tup xs) \/
  ∃(o:Obj) (its:Array ah) (n:Nat),K.lookup a=some o/\o.cls = .type "tuple" /\ o.data = .seq its n/\its.size<=sizeLine/\jI xs its.toList
noncomputable def absV:ah->Option V
 | .none=>some .non
 | .bool b=>some (.bl b)
 | .int i _=>some (.int i)
 | .str x _=>some (.str x)
 | .bytes b _=>some (.byt b)
 | .float b _=>some (.flt b)
 | .ref a=>some (.ref a)
 | .type n=>some (.ty n)
 | _=>none
theorem jK.abs {x:V}{u:ah}(r:jK x u):absV u=some x:=by
 cases x with
 | non=>cases r;rfl
 | bl _=>cases r;rfl
 | int _=>obtain ⟨t,rfl⟩:=r;rfl
 | str _=>obtain ⟨t,rfl⟩:=r;rfl
 | byt _=>obtain ⟨t,rfl⟩:=r;rfl
 | flt _=>obtain ⟨t,rfl⟩:=r;rfl
 | ref _=>cases r;rfl
 | ty _=>cases r;rfl
theorem jK.inj {x y:V}{u:ah}(r:jK x u) (q:jK y u):x=y:=bg (r.abs.symm.trans q.abs)
theorem jI.inj:∀{xs ys:List V}{us:List ah},jI xs us->jI ys us->xs=ys
 | _,_,_,.nil,.nil=>rfl
 | _,_,_,.cons r t,.cons r' t'=>by rw [r.inj r',jI.inj t t']
section
variable {X:Cx}{pins:List (Addr×Obj)}{σ:St}{H:Hp}{s:Shared}{a:Addr}{xs ys:List V}
theorem SqL.of {K:ai}(h:H a=some (.lst xs)):SqL K H a xs:=.inl (.inl h)
theorem SqT.of {K:ai}(h:H a=some (.tup xs)):SqT K H a xs:=.inl (.inl h)
theorem Inv.list (I:Inv X pins σ H s) (h:SqL X.K H a xs):∃its:List ah,jI xs its/\PlainL s.heap a its.toArray/\xs.length<=sizeLine:=by
 rcases h with h | ⟨o,its,n,hk,hc,hd,hs,hz,r⟩
 ·obtain ⟨z,its,n,r,e⟩:=h.ok I.hok
  exact ⟨its,r,⟨_,n,e,rfl,rfl,rfl⟩,z⟩
 ·refine ⟨its.toList,r,⟨o,n,I.kIn a o hk,hc,hd,by simpa using hs⟩,?_⟩
  have e:=r.length
  simp only [bN] at e
  omega
theorem Inv.tuple (I:Inv X pins σ H s) (h:SqT X.K H a xs):∃its:List ah,jI xs its/\rf s.heap a its.toArray/\xs.length<=sizeLine:=by
 rcases h with h | ⟨o,its,n,hk,hc,hs,hz,r⟩
 ·obtain ⟨z,its,r,p⟩:=h.ok I.hok
  exact ⟨its,r,p,z⟩
 ·refine ⟨its.toList,r,⟨o,I.kIn a o hk,hc,n,by simpa using hs⟩,?_⟩
  have e:=r.length
  simp only [bN] at e
  omega
theorem Inv.list_inj (I:Inv X pins σ H s) (h:SqL X.K H a xs) (h':SqL X.K H a ys):xs=ys:=by
 obtain ⟨its,r,⟨o,n,e,_,_,d⟩,_⟩:=I.list h
 obtain ⟨its',r',⟨o',n',e',_,_,d'⟩,_⟩:=I.list h'
 rw [e] at e';cases e'
 rw [d] at d'
 injection d' with d1 _
 have:its=its':=by simpa using congrArg Array.toList d1
 subst this
 exact r.inj r'
theorem Inv.tuple_inj (I:Inv X pins σ H s) (h:SqT X.K H a xs) (h':SqT X.K H a ys):xs=ys:=by
 obtain ⟨its,r,⟨o,e,_,n,d⟩,_⟩:=I.tuple h
 obtain ⟨its',r',⟨o',e',_,n',d'⟩,_⟩:=I.tuple h'
 rw [e] at e';cases e'
 rw [d] at d'
 injection d' with d1 _
 have:its=its':=by simpa using congrArg Array.toList d1
 subst this
 exact r.inj r'
end
noncomputable abbrev Cx.wish (X:Cx) (E:ah->Shared->Prop):Cx:={ X with xe:=E }
noncomputable abbrev Cx.nox (X:Cx):Cx:=X.wish λ_ _=>False
theorem Cx.Ok.wish {X:Cx}(ok:X.Ok) (E:ah->Shared->Prop):(X.wish E).Ok :=
 ⟨ok.mod,ok.kind,ok.glob,ok.blt,ok.above,ok.inj,ok.has,ok.cab,ok.hd,ok.frames,ok.stk,ok.exf,ok.bs,ok.bsz,ok.noex,ok.exfs,ok.funs,ok.frf⟩
theorem Cx.Ok.unwish {X:Cx}{E:ah->Shared->Prop}(ok:(X.wish E).Ok):X.Ok :=
 ⟨ok.mod,ok.kind,ok.glob,ok.blt,ok.above,ok.inj,ok.has,ok.cab,ok.hd,ok.frames,ok.stk,ok.exf,ok.bs,ok.bsz,ok.noex,ok.exfs,ok.funs,ok.frf⟩
section
variable {X:Cx}{pins:List (Addr×Obj)}{σ:St}{H:Hp}{s:Shared}{E:ah->Shared->Prop}
theorem Inv.wish (I:Inv X pins σ H s) (E:ah->Shared->Prop):Inv (X.wish E) pins σ H s:=⟨I.ok.wish E,I.os,I.bare,I.base,I.loc,I.cell,I.free,I.freeC,I.pin,I.hok,I.len⟩
theorem Inv.unwish (I:Inv (X.wish E) pins σ H s):Inv X pins σ H s:=⟨I.ok.unwish,I.os,I.bare,I.base,I.loc,I.cell,I.free,I.freeC,I.pin,I.hok,I.len⟩
theorem SP.unwish {D:Ends}{f:Flow}{s':Shared}(h:SP (X.wish E) pins D f s'):SP X pins D f s':=by
 cases f with
 | next=>obtain ⟨σ',H',I,q⟩:=h;exact ⟨σ',H',I.unwish,q⟩
 | brk=>obtain ⟨σ',H',I,q⟩:=h;exact ⟨σ',H',I.unwish,q⟩
 | cont=>obtain ⟨σ',H',I,q⟩:=h;exact ⟨σ',H',I.unwish,q⟩
 | ret u=>obtain ⟨v,σ',H',I,r,q⟩:=h;exact ⟨v,σ',H',I.unwish,r,q⟩
theorem PE.nox {e:Expr}{t:TE}(h:PE X.nox e t):PE X e t:=λpins s σ H Q I hw =>
 aW (h pins s σ H Q (I.wish _) hw) (λ_ _ ⟨v,H',I',r,q⟩=>⟨v,H',I'.unwish,r,q⟩) λ_ _ z=>bp z
theorem PSs.nox {st:List Stmt}{t:TS}(h:PSs X.nox st t):PSs X st t:=λpins s σ H D I hw =>
 aW (h pins s σ H D (I.wish _) hw) (λ_ _ q=>q.unwish) λ_ _ z=>bp z
end
section
variable {X:Cx}{st:Stmt}{vK:List Stmt}{t u:TS}{e:Expr}{te:TE}{pos:Pos}
noncomputable def Gz:TS:=λD σ H=>D.nx σ H
noncomputable def tSeq (t u:TS):TS:=λD σ H=>t { D with nx:=u D } σ H
theorem jr:PSs X [] Gz:=λ_ _ σ H _ I h=>fj ⟨σ,H,I,h⟩
theorem j7 (h1:PS X st t) (h2:PSs X vK u):PSs X (st::vK) (tSeq t u):=by
 intro pins s σ H D I h
 refine lu (thn (h1 pins s σ H { D with nx:=u D } I h) λf s1 q=>?_)
 cases f with
 | next =>
  obtain ⟨σ',H',I',q⟩:=q
  exact h2 pins s1 σ' H' D I' q
 | ret v=>exact q
 | brk=>exact q
 | cont=>exact q
theorem jb (h1:PS X st t):PSs X [st] t:=by
 intro pins s σ H D I h
 refine lu (thn (h1 pins s σ H D I h) λf s1 q=>?_)
 cases f with
 | next=>exact fj q
 | ret v=>exact q
 | brk=>exact q
 | cont=>exact q
theorem Inv.quiet {pins:List (Addr×Obj)}{σ:St}{H:Hp}{s:Shared}(I:Inv X pins σ H s):interactive X.env=false:=by simp [interactive,I.ok.kind]
noncomputable def G7 (te:TE):TS:=λD σ H=>te σ H λ_ H1=>D.nx σ H1
theorem qi (he:PE X e te) (hs:iE e none pos.line X.env=pure false:=by rfl):PS X (.Expr e pos) (G7 te):=by
 intro pins s σ H D I h
 exact wpAny_Expr_any (thn (he pins s σ H _ I h) λv s1 ⟨x,H1,I1,r1,q1⟩=>⟨σ,H1,I1,q1⟩) I.quiet hs
noncomputable def vU (te:TE):TS:=λD σ H=>te σ H D.rt
theorem jj (he:PE X e te):PS X (.Return (some e) pos) (vU te):=by
 intro pins s σ H D I h
 exact wpAny_Return_some (thn (he pins s σ H _ I h) λv s1 ⟨x,H1,I1,r1,q1⟩=>⟨x,σ,H1,I1,r1,q1⟩)
noncomputable def tIfS (c:TT) (t u:TS):TS:=λD σ H=>c σ H λb H1=>if b=true then t D σ H1 else u D σ H1
theorem jB {c:Expr}{a b:List Stmt}{tc:TT}(hc:PT X c tc) (ha:PSs X a t) (hb:PSs X b u):PS X (.If c a b pos) (tIfS tc t u):=by
 intro pins s σ H D I h
 refine wpAny_If (thn (hc pins s σ H _ I h) λd s1 ⟨H1,I1,q1⟩=>?_)
 cases d with
 | true=>exact ha pins s1 σ H1 D I1 q1
 | false=>exact hb pins s1 σ H1 D I1 q1
end
noncomputable abbrev TG:=V->St->Hp->(St->Hp->Prop)->Prop
noncomputable abbrev TGs:=List V->St->Hp->(St->Hp->Prop)->Prop
noncomputable def PG (X:Cx) (target:Expr) (t:TG):Prop :=
 ∀(pins:List (Addr×Obj)) (s:Shared) (σ:St) (H:Hp) (v:V) (u:ah) (Q:St->Hp->Prop),Inv X pins σ H s->jK v u->t v σ H Q ->
  ay (aD X.prog X.w) X.A (fU target X.env u) (λ_ s'=>∃σ' H',Inv X pins σ' H' s'/\Q σ' H') X.xe s
noncomputable def PGs (X:Cx) (ts:List Expr) (t:TGs):Prop :=
 ∀(pins:List (Addr×Obj)) (s:Shared) (σ:St) (H:Hp) (vs:List V) (us:List ah) (Q:St->Hp->Prop),Inv X pins σ H s->jI vs us->t vs σ H Q ->
  ay (aD X.prog X.w) X.A (rW ((d6 ts X.env).map (·.2)) us) (λ_ s'=>∃σ' H',Inv X pins σ' H' s'/\Q σ' H') X.xe s
noncomputable abbrev Wf:=V->V->V->Hp->(Hp->Prop)->Prop
noncomputable def Gp (X:Cx) (t:Wf):Prop :=
 ∀(pins:List (Addr×Obj)) (s:Shared) (σ:St) (H:Hp) (o i v:V) (ov iv u:ah) (Q:Hp->Prop),Inv X pins σ H s->jK o ov->jK i iv->jK v u->t o i v H Q ->
  ay (aD X.prog X.w) X.A (setItem ov iv u) (λ_ s'=>∃H',Inv X pins σ H' s'/\Q H') X.xe s
section
variable {X:Cx}{pos:Pos}
noncomputable def uX (i:Nat):TG:=λv σ H Q=>Q (σ.set i (some v)) H
theorem ji {i:Nat}{x:Str}(hN:X.N.Nodup) (hi:X.N[i]? = some x) (hx:Loc X.env.scope x) (hf:X.fn x=true\/X.env.scope.names.lookup x=some .local:=by first | exact .inl rfl | exact .inr rfl | assumption):PG X (.Name x pos) (uX i):=by
 intro pins s σ H v u Q I r h
 exact oa (wG I hN hi hx r (λs' I'=>⟨_,H,I',h⟩) hf)
noncomputable def gNil:TGs:=λvs σ H Q=>vs=[]/\Q σ H
noncomputable def WF (t:TG) (u:TGs):TGs:=λvs σ H Q=>∃v r,vs=v::r/\t v σ H λσ' H'=>u r σ' H' Q
theorem qV:PGs X [] gNil:=by
 intro pins s σ H vs us Q I r h
 obtain ⟨e,h⟩:=h
 subst e
 cases r
 exact assignInOrder_nil ⟨σ,H,I,h⟩
theorem jE {e:Expr}{es:List Expr}{t:TG}{u:TGs}(h1:PG X e t) (h2:PGs X es u)
  (hs:(d6 (e::es) X.env).map (·.2)=fU e X.env::(d6 es X.env).map (·.2):=by rfl):PGs X (e::es) (WF t u):=by
 intro pins s σ H vs us Q I r h
 obtain ⟨v,vr,e1,h⟩:=h
 subst e1
 cases r with
 | cons r rr =>
  rw [hs]
  refine assignInOrder_cons (thn (h1 pins s σ H _ _ _ I r h) λ_ s1 ⟨σ1,H1,I1,q1⟩=>?_)
  exact h2 pins s1 σ1 H1 _ _ Q I1 rr q1
noncomputable def W7 (K:ai) (n:Nat) (t:TGs):TG:=λv σ H Q=>∃a xs,v = .ref a/\SqT K H a xs/\xs.length=n/\t xs σ H Q
theorem Wq {es:List Expr}{k:Nat}{t:TGs}{n:Nat}(hc:X.calm=true) (h:PGs X es t)
  (hn:(d6 es X.env).length=n:=by rfl) (hst:(d6 es X.env).findIdx? (·.1)=none:=by rfl):PG X (.Tuple es k pos) (W7 X.K n t):=by
 intro pins s σ H v u Q I r hw
 obtain ⟨a,xs,e1,hq,hl,hw⟩:=hw
 subst e1
 cases r
 obtain ⟨its,rv,ht,hz⟩:=I.tuple hq
 refine assign_Tuple_tuple (I.ok.hd hc) ht (by simp [hn,<- hl,rv.length]) hst λh' hx=>?_
 have I1:Inv X pins σ H { s with heap:=h' }:=I.kept (t':=s.toks) λb o e=>hx b o (aB (aw e)) e
 exact h pins _ σ H xs _ Q I1 (by simpa using rv) hw
noncomputable def gSub (to ti:TE) (t:Wf):TG:=λv σ H Q=>to σ H λo H1=>ti σ H1 λi H2=>t o i v H2 λH3=>Q σ H3
theorem Ji {o i:Expr}{to ti:TE}{t:Wf}(ho:PE X o to) (hi:PE X i ti) (hs:Gp X t)
  (ha:∀v,fU (.Subscript o i pos) X.env v=(do
   let ov <- i0 [v] (eval o X.env)
   let iv <- i0 [v,ov] (eval i X.env)
   fZ pos
   i0 [v,ov,iv] (setItem ov iv v)
   release [v,ov,iv] []):=by intro _;rfl):PG X (.Subscript o i pos) (gSub to ti t):=by
 intro pins s σ H v u Q I r h
 rw [ha]
 refine aa (bC (thn (ho pins s σ H _ I h) λov s1 ⟨x,H1,I1,r1,q1⟩=>?_))
 refine aa (bC (thn (hi pins s1 σ H1 _ I1 q1) λiv s2 ⟨y,H2,I2,r2,q2⟩=>?_))
 refine aa (cW (aa (bC (thn (hs pins s2 σ H2 x y v ov iv u _ I2 r1 r2 r q2) λ_ s3 ⟨H3,I3,q3⟩=>?_))))
 exact wpAny_release ⟨σ,H3,I3,q3⟩
noncomputable def Uo (te:TE) (g:TG):TS:=λD σ H=>te σ H λx H1=>g x σ H1 D.nx
theorem yB {tg e:Expr}{te:TE}{g:TG}(he:PE X e te) (hg:PG X tg g) (hs:swapsWithSole [tg] e pos.line X.env=pure false:=by rfl) (hw:swappedStores [tg] e X.env=pure none:=by rfl)
  (h1:(d6 [tg] X.env).map (·.2)=[fU tg X.env]:=by rfl):PS X (.Assign [tg] e pos) (Uo te g):=by
 intro pins s σ H D I h
 refine wpAny_Assign_stores (thn (he pins s σ H _ I h) λv s1 ⟨x,H1,I1,r1,q1⟩=>?_) hs hw
 rw [h1]
 exact thn (hg pins s1 σ H1 x v _ I1 r1 q1) λ_ s2 q=>q
theorem uO {i:Nat}{x:Str}{e:Expr}{te:TE}{pos':Pos}(hN:X.N.Nodup) (hi:X.N[i]? = some x) (hx:Loc X.env.scope x) (he:PE X e te) (hs:iE e (some (.Name x pos')) pos.line X.env=pure false:=by rfl) (hf:X.fn x=true\/X.env.scope.names.lookup x=some .local:=by first | exact .inl rfl | exact .inr rfl | assumption) :
  PS X (.Assign [.Name x pos'] e pos) (Uo te (uX i)):=by
 intro pins s σ H D I h
 refine wpAny_Assign_Name (thn (he pins s σ H _ I h) λv s1 ⟨y,H1,I1,r1,q1⟩=>?_) hs
 exact wG I1 hN hi hx r1 (λs2 I2=>⟨_,H1,I2,q1⟩) hf
theorem ju (i:Nat){x:Str}{e:Expr}{te:TE}{pos':Pos}(hN:X.N.Nodup) (he:PE X e te) (hi:X.N[i]?=some x:=by rfl) (hx:Loc X.env.scope x:=by exact bb rfl) (hs:iE e (some (.Name x pos')) pos.line X.env=pure false:=by rfl) (hf:X.fn x=true\/X.env.scope.names.lookup x=some .local:=by first | exact .inl rfl | exact .inr rfl | assumption):PS X (.Assign [.Name x pos'] e pos) (Uo te (uX i)):=uO hN hi hx he hs hf
end
section
variable {X:Cx}{pos:Pos}
noncomputable def YI (c:TT) (tb:TS):TS:=λD σ H=>∃W:Nat->St->Hp->Prop,(∃m,W m σ H)/\∀m σ H,W m σ H ->
 c σ H λb H1=>if b=true then ∃N:St->Hp->Prop,(∀σ' H',N σ' H'->∃m',m'<m/\W m' σ' H')/\tb { D with nx:=N,ct:=N,bk:=D.nx } σ H1 else D.nx σ H1
theorem Qv {c:Expr}{body:List Stmt}{tc:TT}{tb:TS}(hp:PassesOwn (aD X.prog X.w) X.A X.env X.xe) (hc:PT X c tc) (hb:PSs X body tb):PS X (.While c body [] pos) (YI tc tb):=by
 intro pins s σ H D I h
 obtain ⟨W,⟨m0,w0⟩,turn⟩:=h
 refine wpAny_While (codeAny_whileLoop (λn s'=>∃σ' H',Inv X pins σ' H' s'/\W n σ' H') ?_ m0 ⟨σ,H,I,w0⟩)
 rintro n s1 ⟨σ1,H1,I1,w1⟩
 refine dG hp (thn (hc pins s1 σ1 H1 _ I1 (turn n σ1 H1 w1)) λb s2 ⟨H2,I2,q2⟩=>?_)
 cases b with
 | true =>
  obtain ⟨N,hN,q2⟩:=q2
  rw [if_pos rfl]
  refine dG hp (thn (hb pins s2 σ1 H2 _ I2 q2) λf s3 q3=>?_)
  cases f with
  | next =>
   obtain ⟨σ3,H3,I3,n3⟩:=q3
   obtain ⟨m',hm,w3⟩:=hN σ3 H3 n3
   exact ⟨m',hm,σ3,H3,I3,w3⟩
  | cont =>
   obtain ⟨σ3,H3,I3,n3⟩:=q3
   obtain ⟨m',hm,w3⟩:=hN σ3 H3 n3
   exact ⟨m',hm,σ3,H3,I3,w3⟩
  | brk=>exact q3
  | ret v=>exact q3
 | false =>
  rw [if_neg ar]
  exact fj ⟨σ1,H2,I2,q2⟩
end
structure It where
 go:Nat->Hp->Prop
 yld:Nat->Hp->V->Hp->Prop
 stop:Nat->Hp->Prop
noncomputable def yj (X:Cx) (pins:List (Addr×Obj)) (H:Hp) (b:Addr):Prop :=
 H b=none/\b≠X.env.locals/\b∉X.fs/\(b∈X.ex\/X.s₀.heap.objs.size<=b)/\(∀x c,X.env.cells.lookup x=some c->c≠b)/\∀p∈X.pn++pins,p.1≠b
theorem Inv.fpOk {X:Cx}{pins:List (Addr×Obj)}{σ:St}{H H':Hp}{s:Shared}{b:Addr}(I:Inv X pins σ H s) (hb:s.heap.objs.size<=b) (hn:H' b=none):yj X pins H' b:=by
 refine ⟨hn,cG (aI I.lt hb),I.nofs hb,.inr (aF I.sz hb),λx c e z=>?_,λp hp z=>?_⟩
 ·obtain ⟨v,q⟩:=I.cell x c e
  exact absurd (aI q.lt (by rw [z];exact hb)) (cw _)
 ·exact absurd (aI (aw (I.pin p hp).1) (by rw [z];exact hb)) (cw _)
structure Turn (P:Program) (w:aU) (K:ai) (tg:Expr) (J:It) (fp:List Addr) (it:Addr) (tn:Nat->Heap->Prop):Prop where
 mem:it∈fp
 obj:∀i h,tn i h->∀b∈fp,∃o,h.get? b=some o/\∀v,o.data≠.cell v
 keep:∀i h h',tn i h->(∀b∈fp,∀o,h.get? b=some o->h'.get? b=some o)->tn i h'
 item:∀(X:Cx),X.prog=P->X.w=w->X.K=K->X.calm=true->∀(i:Nat) (pins:List (Addr×Obj)) (s:Shared) (σ:St) (H:Hp) (E:ah->Shared->Prop),Inv X pins σ H s->(∀b∈fp,yj X pins H b)->tn i s.heap->J.go i H ->
  ay (aD P w) X.A (eY (.ref it)) (λr s1=>∃u,r=some u /\
   ay (aD P w) X.A (cQ tg (.ref it) u) (λ_ s2=>∃x H',Inv X pins σ H' s2/\jK x u/\J.yld i H x H'/\tn (i+1) s2.heap/\∀b∈fp,H' b=none) E s1) E s
 done:∀(X:Cx),X.prog=P->X.w=w->X.K=K->X.calm=true->∀(i:Nat) (pins:List (Addr×Obj)) (s:Shared) (σ:St) (H:Hp) (E:ah->Shared->Prop),Inv X pins σ H s->(∀b∈fp,yj X pins H b)->tn i s.heap->J.stop i H ->
  ay (aD P w) X.A (eY (.ref it)) (λr s1=>r=none/\Inv X pins σ H s1) E s
 self:∀(A:b9) (i:Nat) (s:Shared) (Q:ah->Shared->Prop) (E:ah->Shared->Prop),tn i s.heap->Q (.ref it) s->ay (aD P w) A (iZ (.ref it)) Q E s
noncomputable abbrev TI:=St->Hp->(It->Hp->Prop)->Prop
noncomputable def PIE (X:Cx) (pins:List (Addr×Obj)) (σ:St) (tg:Expr) (R:It->Hp->Prop) (itv:ah) (s2:Shared):Prop :=
 ∃(it:Addr) (fp:List Addr) (tn:Nat->Heap->Prop) (J:It) (H':Hp),itv = .ref it/\Inv X pins σ H' s2/\Turn X.prog X.w X.K tg J fp it tn/\tn 0 s2.heap/\(∀b∈fp,yj X pins H' b)/\R J H'
noncomputable def PI (X:Cx) (tg iter:Expr) (wi:TI):Prop :=
 ∀(pins:List (Addr×Obj)) (s:Shared) (σ:St) (H:Hp) (R:It->Hp->Prop),Inv X pins σ H s->wi σ H R ->
  ay (aD X.prog X.w) X.A (eval iter X.env) (λv s1=>ay (aD X.prog X.w) X.A (iZ v) (PIE X pins σ tg R) X.xe s1) X.xe s
theorem QW {M:sI}{A:b9}{E:ah->Shared->Prop}{s:Shared}{tg:Expr}{it:Addr}{u:ah}{o:Obj}{n:String}{vs:Array ah}{Q:Unit->Shared->Prop}(ho:s.heap.get? it=some o) (hc:o.cls = .type n) (hd:o.data = .fields vs)
  (hn:["enumerate","zip","dict_itemiterator","dict_reverseitemiterator","odict_iterator","itertools.zip_longest","itertools.pairwise"].contains n=false) (hQ:Q () s):ay M A (cQ tg (.ref it) u) Q E s:=by
 unfold cQ
 cases tg <;> first
  | exact wpAny_pure hQ
  | (cases u <;> first
    | exact wpAny_pure hQ
    | (refine aa (wpAny_load ho ?_)
       rw [hc,hd]
       show ay M A (if (["enumerate","zip","dict_itemiterator","dict_reverseitemiterator","odict_iterator","itertools.zip_longest","itertools.pairwise"].contains n && vs[0]? == some (c6 _))=true then _ else _) Q E s
       rw [if_neg (by intro h;rw [hn,Bool.false_and] at h;cases h)]
       exact wpAny_pure hQ))
noncomputable def Itl (K:ai) (a:Addr):It :=
 ⟨λi H=>∃xs x,SqL K H a xs/\xs[i]? = some x,λi H x H'=>H'=H/\∀xs,SqL K H a xs->xs[i]? = some x,λi H=>∃xs,SqL K H a xs/\xs.length<=i⟩
noncomputable def Itt (K:ai) (a:Addr):It :=
 ⟨λi H=>∃xs x,SqT K H a xs/\xs[i]? = some x,λi H x H'=>H'=H/\∀xs,SqT K H a xs->xs[i]? = some x,λi H=>∃xs,SqT K H a xs/\xs.length<=i⟩
noncomputable def Itr (lo:Int) (n:Nat):It:=⟨λi _=>i<n,λi H x H'=>H'=H/\x = .int (lo+i),λi _=>n<=i⟩
theorem Y5 {P:Program}{w:aU}{K:ai}{tg:Expr}(a it:Addr):Turn P w K tg (Itl K a) [it] it (λi h=>h.IsListIter it a i) where
 mem:=by simp
 obj:=λi h st b hb=>by
  have e:b=it:=by simpa using hb
  subst e
  obtain ⟨o,e,c,d⟩:=st
  exact ⟨o,e,λv z=>by rw [d] at z;cases z⟩
 keep:=λi h h' st k=>st.at λo e=>k it (by simp) o e
 item:=by
  intro X hP hw hK hc i pins s σ H E I hf st hg
  subst hP hw hK
  obtain ⟨xs,x,hq,hx⟩:=hg
  obtain ⟨its,rv,p,hz⟩:=I.list hq
  obtain ⟨u,hu,ru⟩:=rv.get hx
  obtain ⟨f0,f1,f2,f3,f4,f5⟩:=hf it (by simp)
  refine lL st p.isList (x:=u) (by simpa using hu) λh' st' sb=>?_
  have I1:Inv X pins σ H { s with heap:=h' }:=I.turned (t':=s.toks) (λb o hb e=>(sb.2 b hb).trans e) f0 f1 f3 f4 f5
  obtain ⟨o,e,c,d⟩:=id st'
  exact ⟨u,rfl,QW (s:={ s with heap:=h' }) e c d ⋯ ⟨x,H,I1,ru,⟨rfl,λys hy=>by rw [I.list_inj hy hq];exact hx⟩,st',λb hb=>(hf b hb).1⟩⟩
 done:=by
  intro X hP hw hK hc i pins s σ H E I hf st hg
  subst hP hw hK
  obtain ⟨xs,hq,hx⟩:=hg
  obtain ⟨its,rv,p,hz⟩:=I.list hq
  obtain ⟨f0,f1,f2,f3,f4,f5⟩:=hf it (by simp)
  have hl:=rv.length
  exact wpAny_pyNext_list_end (I.ok.hd hc) st p.isList (by simp;omega) λh' eb=>⟨rfl,I.turned (t':=s.toks) (λb o hb e=>eb b o hb e) f0 f1 f3 f4 f5⟩
 self:=λ_ _ _ _ _ st h=>mf st h
theorem Xn {P:Program}{w:aU}{K:ai}{tg:Expr}(a it:Addr):Turn P w K tg (Itt K a) [it] it (λi h=>h.IsTupleIter it a i) where
 mem:=by simp
 obj:=λi h st b hb=>by
  have e:b=it:=by simpa using hb
  subst e
  obtain ⟨o,e,c,d⟩:=st
  exact ⟨o,e,λv z=>by rw [d] at z;cases z⟩
 keep:=λi h h' st k=>st.at λo e=>k it (by simp) o e
 item:=by
  intro X hP hw hK hc i pins s σ H E I hf st hg
  subst hP hw hK
  obtain ⟨xs,x,hq,hx⟩:=hg
  obtain ⟨its,rv,p,hz⟩:=I.tuple hq
  obtain ⟨u,hu,ru⟩:=rv.get hx
  obtain ⟨f0,f1,f2,f3,f4,f5⟩:=hf it (by simp)
  refine wpAny_pyNext_tuple_item st (show s.heap.IsTuple a its.toArray from p) (x:=u) (by simpa using hu) λh' st' sb=>?_
  have I1:Inv X pins σ H { s with heap:=h' }:=I.turned (t':=s.toks) (λb o hb e=>(sb.2 b hb).trans e) f0 f1 f3 f4 f5
  obtain ⟨o,e,c,d⟩:=id st'
  exact ⟨u,rfl,QW (s:={ s with heap:=h' }) e c d ⋯ ⟨x,H,I1,ru,⟨rfl,λys hy=>by rw [I.tuple_inj hy hq];exact hx⟩,st',λb hb=>(hf b hb).1⟩⟩
 done:=by
  intro X hP hw hK hc i pins s σ H E I hf st hg
  subst hP hw hK
  obtain ⟨xs,hq,hx⟩:=hg
  obtain ⟨its,rv,p,hz⟩:=I.tuple hq
  obtain ⟨f0,f1,f2,f3,f4,f5⟩:=hf it (by simp)
  have hl:=rv.length
  exact wpAny_pyNext_tuple_end (I.ok.hd hc) st (show s.heap.IsTuple a its.toArray from p) (by simp;omega) λh' eb=>⟨rfl,I.turned (t':=s.toks) (λb o hb e=>eb b o hb e) f0 f1 f3 f4 f5⟩
 self:=λ_ _ _ _ _ st h=>wpAny_pyIter_tupleiter st h
theorem Xd {P:Program}{w:aU}{K:ai}{tg:Expr}(it:Addr) (lo:Int) (n:Nat):Turn P w K tg (Itr lo n) [it] it (λi h=>IsRangeIter h it (lo+(i:Nat)*1) ((n:Int)-(i:Nat)) 1) where
 mem:=by simp
 obj:=λi h st b hb=>by
  have e:b=it:=by simpa using hb
  subst e
  exact ⟨_,st,λv z=>by
   have z':pC _=mM v:=z
   cases z'⟩
 keep:=λi h h' st k=>k it (by simp) _ st
 item:=by
  intro X hP hw hK hc i pins s σ H E I hf st hg
  subst hP hw hK
  obtain ⟨f0,f1,f2,f3,f4,f5⟩:=hf it (by simp)
  have W:=Walks.range (prog:=X.prog) (w:=X.w) (I.ok.hd hc) it lo 1 n
  refine W.item i s _ _ hg st λv h' tk hv st' kk=>?_
  obtain ⟨t,rfl⟩:=hv
  have I1:Inv X pins σ H { s with heap:=h',toks:=tk }:=I.turned (λb o hb e=>kk b o (by simpa using hb) e) f0 f1 f3 f4 f5
  refine ⟨_,rfl,QW (s:={ s with heap:=h',toks:=tk }) (n:="range_iterator") st' rfl rfl ⋯ ⟨.int (lo+i),H,I1,⟨t,?_⟩,⟨rfl,rfl⟩,st',λb hb=>(hf b hb).1⟩⟩
  rw [Int.mul_one]
 done:=by
  intro X hP hw hK hc i pins s σ H E I hf st hg
  subst hP hw hK
  obtain ⟨f0,f1,f2,f3,f4,f5⟩:=hf it (by simp)
  exact wpAny_pyNext_range_end (I.ok.hd hc) st (by have:n<=i:=hg;omega) λh' eb=>⟨rfl,I.turned (t':=s.toks) (λb o hb e=>eb b o hb e) f0 f1 f3 f4 f5⟩
 self:=λ_ _ _ _ _ st h=>wpAny_pyIter_rangeiter st h
end L2
namespace L2
section
variable {X:Cx}{tg:Expr}
noncomputable def ZA (K:ai) (tl:TE):TI:=λσ H R=>tl σ H λx H1=>∃a,x = .ref a/\(∃xs,SqL K H1 a xs)/\R (Itl K a) H1
noncomputable def WX (K:ai) (tl:TE):TI:=λσ H R=>tl σ H λx H1=>∃a,x = .ref a/\(∃xs,SqT K H1 a xs)/\R (Itt K a) H1
theorem Ub {l:Expr}{tl:TE}(hl:PE X l tl):PI X tg l (ZA X.K tl):=by
 intro pins s σ H R I h
 refine thn (hl pins s σ H _ I h) λv s1 ⟨x,H1,I1,r1,q1⟩=>?_
 obtain ⟨a,e,⟨xs,hq⟩,q⟩:=q1
 subst e
 cases r1
 obtain ⟨its,rv,p,hz⟩:=I1.list hq
 refine eK p.isList ?_
 refine ⟨s1.heap.objs.size,[s1.heap.objs.size],_,_,H1,rfl,I1.kept (t':=s1.toks) λb o e=>ak _ e,Y5 a _,⟨_,aA _ rfl,rfl,rfl⟩,λb hb=>?_,q⟩
 have e:b=s1.heap.objs.size:=by simpa using hb
 subst e
 exact I1.fpOk (av _) (I1.hok.fresh (av _))
theorem UH {l:Expr}{tl:TE}(hl:PE X l tl):PI X tg l (WX X.K tl):=by
 intro pins s σ H R I h
 refine thn (hl pins s σ H _ I h) λv s1 ⟨x,H1,I1,r1,q1⟩=>?_
 obtain ⟨a,e,⟨xs,hq⟩,q⟩:=q1
 subst e
 cases r1
 obtain ⟨its,rv,p,hz⟩:=I1.tuple hq
 refine nJ (show s1.heap.IsTuple a its.toArray from p) ?_
 refine ⟨s1.heap.objs.size,[s1.heap.objs.size],_,_,H1,rfl,I1.kept (t':=s1.toks) λb o e=>ak _ e,Xn a _,⟨_,aA _ rfl,rfl,rfl⟩,λb hb=>?_,q⟩
 have e:b=s1.heap.objs.size:=by simpa using hb
 subst e
 exact I1.fpOk (av _) (I1.hok.fresh (av _))
theorem Q4 {pins:List (Addr×Obj)}{σ:St}{H:Hp}{s:Shared}{R:It->Hp->Prop}{E:ah->Shared->Prop}{lo hi:Int}{t u v:Tok}{tk:Nat}(I:Inv X pins σ H s) (h1 : -(2 ^ 62)<=lo) (h2:lo<2 ^ 62) (h3 : -(2 ^ 62)<=hi) (h4:hi<2 ^ 62)
  (q:R (Itr lo (hi-lo).toNat) H):ay (aD X.prog X.w) X.A (iZ (.ref s.heap.objs.size)) (PIE X pins σ tg R) E { s with heap:=s.heap.push { cls:=.type "range",data:=.fields #[.int lo t,.int hi u,.int 1 v] },toks:=tk }:=by
 refine wpAny_pyIter_range (IsRange.new ..) (small_one h1 h2 h3 h4) ?_
 have I1:Inv X pins σ H { s with heap:=s.heap.push { cls:=.type "range",data:=.fields #[.int lo t,.int hi u,.int 1 v] },toks:=tk }:=I.kept λb o e=>ak _ e
 refine ⟨(s.heap.push { cls:=.type "range",data:=.fields #[.int lo t,.int hi u,.int 1 v] }).objs.size,[(s.heap.push { cls:=.type "range",data:=.fields #[.int lo t,.int hi u,.int 1 v] }).objs.size],_,_,H,rfl,
  I1.kept (t':=tk) λb o e=>ak _ e,Xd _ lo (hi-lo).toNat,?_,λb hb=>?_,q⟩
 ·have e1:lo+((0:Nat):Int)*1=lo:=by simp
  have e2:(((hi-lo).toNat:Nat):Int)-((0:Nat):Int)=Builtin.Range.rangeSize lo hi 1:=by rw [rangeSize_one];split <;> omega
  show IsRangeIter _ _ (lo+((0:Nat):Int)*1) ((((hi-lo).toNat:Nat):Int)-((0:Nat):Int)) 1
  rw [e1,e2]
  exact aA _ rfl
 ·have e:b=(s.heap.push { cls:=.type "range",data:=.fields #[.int lo t,.int hi u,.int 1 v] }).objs.size:=by simpa using hb
  subst e
  exact I1.fpOk (av _) (I1.hok.fresh (av _))
noncomputable def WV (ta:TA):TI:=λσ H R=>ta σ H λvs H1=>∃j:Int,vs=[.int j] /\ -(2 ^ 62)<=j/\j<2 ^ 62/\R (Itr 0 j.toNat) H1
noncomputable def WQ (ta:TA):TI:=λσ H R=>ta σ H λvs H1=>∃i j:Int,vs=[.int i,.int j]/\(-(2 ^ 62)<=i/\i<2 ^ 62 /\ -(2 ^ 62)<=j/\j<2 ^ 62)/\R (Itr i (j-i).toNat) H1
theorem qL {a:Expr}{ta:TA}{p pos:Pos}(hg:Gl X "range") (hm:X.mg "range" = none) (ha:PA X [a] ta) (hs:aN [a] X.env=[(false,eval a X.env)]:=by rfl):PI X tg (.Call (.Name "range" p) [a] [] pos) (WV ta):=by
 intro pins s σ H R I h
 refine Call_ (yS I hg hm boot_range (cF (thn (ha pos pins s σ H _ I h) λus s1 ⟨vs,H1,I1,r1,q1⟩=>?_) hs rfl))
 obtain ⟨j,e,q1,q2,q⟩:=q1
 subst e
 cases r1 with
 | cons r rr =>
  cases rr
  obtain ⟨t,rfl⟩:=r
  exact call_range_1 (Q4 I1 ∅ ∅ q1 q2 (by simpa using q))
theorem Yt {a b:Expr}{ta:TA}{p pos:Pos}(hg:Gl X "range") (hm:X.mg "range" = none) (ha:PA X [a,b] ta) (hs:aN [a,b] X.env=[(false,eval a X.env),(false,eval b X.env)]:=by rfl) (hs2:aN [b] X.env=[(false,eval b X.env)]:=by rfl) :
  PI X tg (.Call (.Name "range" p) [a,b] [] pos) (WQ ta):=by
 intro pins s σ H R I h
 refine Call_ (yS I hg hm boot_range (cF (thn (ha pos pins s σ H _ I h) λus s1 ⟨vs,H1,I1,r1,q1⟩=>?_) (by rw [hs,hs2]) (by rw [hs2];rfl)))
 obtain ⟨i,j,e,⟨q1,q2,q3,q4⟩,q⟩:=q1
 subst e
 cases r1 with
 | cons r rr =>
  cases rr with
  | cons r' rr =>
   cases rr
   obtain ⟨t,rfl⟩:=r
   obtain ⟨t',rfl⟩:=r'
   exact call_range_2 (Q4 I1 q1 q2 q3 q4 q)
noncomputable def tFor (wi:TI) (g:TG) (tb:TS):TS:=λD σ H=>wi σ H λJ H1=>∃W:Nat->Nat->St->Hp->Prop,(∃m,W 0 m σ H1)/\∀i m σ H,W i m σ H ->
 (J.stop i H/\D.nx σ H)\/(J.go i H/\∃N:St->Hp->Prop,(∀σ' H',N σ' H'->∃m',m'<m/\W (i+1) m' σ' H')/\∀x H',J.yld i H x H'->g x σ H' λσ2 H2=>tb { D with nx:=N,ct:=N,bk:=D.nx } σ2 H2)
noncomputable def zc (fp:List Addr) (h:Heap):List (Addr×Obj):=fp.filterMap λb=>(h.get? b).map λo=>(b,o)
theorem qB {fp:List Addr}{h:Heap}{b:Addr}{o:Obj}(hb:b∈fp) (e:h.get? b=some o):(b,o)∈zc fp h:=List.mem_filterMap.mpr ⟨b,hb,by rw [e];rfl⟩
theorem Yq {fp:List Addr}{h:Heap}{p:Addr×Obj}(hp:p∈zc fp h):p.1∈fp/\h.get? p.1=some p.2:=by
 obtain ⟨b,hb,e⟩:=List.mem_filterMap.mp hp
 cases q:h.get? b with
 | none=>rw [q] at e;cases e
 | some o =>
  rw [q] at e
  have e':(b,o)=p:=bg e
  subst e'
  exact ⟨hb,q⟩
theorem Inv.pinned {pins:List (Addr×Obj)}{σ:St}{H:Hp}{s:Shared}{fp:List Addr}(I:Inv X pins σ H s) (hf:∀b∈fp,yj X pins H b) (ho:∀b∈fp,∃o,s.heap.get? b=some o/\∀v,o.data≠.cell v):Inv X (pins++zc fp s.heap) σ H s :=
 I.pins_of λp hp=>(List.mem_append.mp hp).elim (λz=>I.pin p (aE _ z)) λz=>by
  obtain ⟨hb,e⟩:=Yq z
  obtain ⟨f0,f1,f2,_⟩:=hf p.1 hb
  obtain ⟨o,e',d⟩:=ho p.1 hb
  rw [e] at e';cases e'
  exact ⟨e,f0,f1,f2,d⟩
theorem Inv.unpinned {pins pl:List (Addr×Obj)}{σ:St}{H:Hp}{s:Shared}(I:Inv X (pins++pl) σ H s):Inv X pins σ H s:=I.pins_of λp hp=>I.pin p (aE _ (cB _ hp))
theorem xI {iter:Expr}{body:List Stmt}{wi:TI}{g:TG}{tb:TS}{pos:Pos}(hp:PassesOwn (aD X.prog X.w) X.A X.env X.xe) (hc:X.calm=true) (hi:PI X tg iter wi) (hg:PG X tg g) (hb:PSs X body tb)
  (hs:∀x,cn iter X.env x=pure x:=by intro _;rfl):PS X (.For tg iter body [] pos) (tFor wi g tb):=by
 intro pins s σ H D I h
 refine wpAny_For (thn (hi pins s σ H _ I h) λv s1 h1=>thn h1 λitv s2 h2=>?_) hs
 obtain ⟨it,fp,tn,J,H2,e,I2,T,st2,f2,W,⟨m0,w0⟩,turn⟩:=h2
 subst e
 have stat:∀{H':Hp},(∀b∈fp,H' b=none)->∀b∈fp,yj X pins H' b:=λhn b hb=>⟨hn b hb,(f2 b hb).2⟩
 refine codeAny_forLoop_any (λn s'=>∃i σ' H',Inv X pins σ' H' s'/\tn i s'.heap/\(∀b∈fp,H' b=none)/\W i n σ' H') ?_ m0 ⟨0,σ,H2,I2,st2,λb hb=>(f2 b hb).1,w0⟩
 rintro n s3 ⟨i,σ3,H3,I3,st3,fr3,w3⟩
 rcases turn i n σ3 H3 w3 with ⟨stop,qn⟩ | ⟨go,N,hN,step⟩
 ·refine dG hp (thn (T.done X rfl rfl rfl hc i pins s3 σ3 H3 X.xe I3 (stat fr3) st3 stop) λr s4 ⟨hr,I4⟩=>?_)
  subst hr
  exact fj ⟨σ3,H3,I4,qn⟩
 ·refine dG hp (thn (T.item X rfl rfl rfl hc i pins s3 σ3 H3 X.xe I3 (stat fr3) st3 go) λr s4 ⟨u,hr,h4⟩=>?_)
  subst hr
  refine dG hp (thn h4 λ_ s5 ⟨x,H5,I5,r5,y5,st5,fr5⟩=>?_)
  have I5':=I5.pinned (stat fr5) (T.obj _ _ st5)
  refine dG hp (thn (hg _ s5 σ3 H5 x u _ I5' r5 (step x H5 y5)) λ_ s6 ⟨σ6,H6,I6,q6⟩=>?_)
  refine dG hp (thn (hb _ s6 σ6 H6 _ I6 q6) λf s7 q7=>?_)
  have again:∀{σ7:St} {H7:Hp},Inv X (pins++zc fp s5.heap) σ7 H7 s7->N σ7 H7->∃m,m<n/\∃i σ' H',Inv X pins σ' H' s7/\tn i s7.heap/\(∀b∈fp,H' b=none)/\W i m σ' H':=λ{σ7 H7} I7 n7=>by
   obtain ⟨m',hm,w7⟩:=hN σ7 H7 n7
   refine ⟨m',hm,i+1,σ7,H7,I7.unpinned,T.keep _ _ _ st5 λb hb o e=>(I7.pin (b,o) (aE _ (aE _ (qB hb e)))).1,λb hb=>?_,w7⟩
   obtain ⟨o,e,d⟩:=T.obj _ _ st5 b hb
   exact (I7.pin (b,o) (aE _ (aE _ (qB hb e)))).2.1
  cases f with
  | next=>obtain ⟨σ7,H7,I7,n7⟩:=q7;exact again I7 n7
  | cont=>obtain ⟨σ7,H7,I7,n7⟩:=q7;exact again I7 n7
  | brk=>obtain ⟨σ7,H7,I7,q7⟩:=q7;exact ⟨σ7,H7,I7.unpinned,q7⟩
  | ret v=>obtain ⟨x7,σ7,H7,I7,r7,q7⟩:=q7;exact ⟨x7,σ7,H7,I7.unpinned,r7,q7⟩
end
theorem kI {K:ai}{a:Addr}{xs:List V}{g:TG}{tb:TS}{D:Ends}{σ:St}{H:Hp}(Pv:Nat->St->Hp->Prop) (h0:Pv 0 σ H) (hl:∀i σ H,i<=xs.length->Pv i σ H->SqL K H a xs)
  (hs:∀i x σ H,xs[i]? = some x->Pv i σ H->g x σ H λσ2 H2=>tb { D with nx:=Pv (i+1),ct:=Pv (i+1),bk:=D.nx } σ2 H2) (hd:∀σ H,Pv xs.length σ H->D.nx σ H) :
  ∃W:Nat->Nat->St->Hp->Prop,(∃m,W 0 m σ H)/\∀i m σ H,W i m σ H ->
   ((Itl K a).stop i H/\D.nx σ H)\/((Itl K a).go i H/\∃N:St->Hp->Prop,(∀σ' H',N σ' H'->∃m',m'<m/\W (i+1) m' σ' H')/\∀x H',(Itl K a).yld i H x H'->g x σ H' λσ2 H2=>tb { D with nx:=N,ct:=N,bk:=D.nx } σ2 H2):=by
 refine ⟨λi m σ H=>m=xs.length-i/\i<=xs.length/\Pv i σ H,⟨xs.length,by simp,aO _,h0⟩,?_⟩
 rintro i m σ H ⟨rfl,hi,p⟩
 have q:=hl i σ H hi p
 by_cases hlt:i<xs.length
 ·refine .inr ⟨⟨xs,xs[i],q,by simp [hlt]⟩,Pv (i+1),λσ' H' p'=>⟨xs.length-(i+1),∅,rfl,hlt,p'⟩,λx H' y=>?_⟩
  obtain ⟨e,y⟩:=y
  subst e
  exact hs i x σ _ (y xs q) p
 ·have e:i=xs.length:=∅
  subst e
  exact .inl ⟨⟨xs,q,av _⟩,hd σ H p⟩
theorem VN {K:ai}{a:Addr}{xs:List V}{g:TG}{tb:TS}{D:Ends}{σ:St}{H:Hp}(Pv:Nat->St->Hp->Prop) (h0:Pv 0 σ H) (hl:∀i σ H,i<=xs.length->Pv i σ H->SqT K H a xs)
  (hs:∀i x σ H,xs[i]? = some x->Pv i σ H->g x σ H λσ2 H2=>tb { D with nx:=Pv (i+1),ct:=Pv (i+1),bk:=D.nx } σ2 H2) (hd:∀σ H,Pv xs.length σ H->D.nx σ H) :
  ∃W:Nat->Nat->St->Hp->Prop,(∃m,W 0 m σ H)/\∀i m σ H,W i m σ H ->
   ((Itt K a).stop i H/\D.nx σ H)\/((Itt K a).go i H/\∃N:St->Hp->Prop,(∀σ' H',N σ' H'->∃m',m'<m/\W (i+1) m' σ' H')/\∀x H',(Itt K a).yld i H x H'->g x σ H' λσ2 H2=>tb { D with nx:=N,ct:=N,bk:=D.nx } σ2 H2):=by
 refine ⟨λi m σ H=>m=xs.length-i/\i<=xs.length/\Pv i σ H,⟨xs.length,by simp,aO _,h0⟩,?_⟩
 rintro i m σ H ⟨rfl,hi,p⟩
 have q:=hl i σ H hi p
 by_cases hlt:i<xs.length
 ·refine .inr ⟨⟨xs,xs[i],q,by simp [hlt]⟩,Pv (i+1),λσ' H' p'=>⟨xs.length-(i+1),∅,rfl,hlt,p'⟩,λx H' y=>?_⟩
  obtain ⟨e,y⟩:=y
  subst e
  exact hs i x σ _ (y xs q) p
 ·have e:i=xs.length:=∅
  subst e
  exact .inl ⟨⟨xs,q,av _⟩,hd σ H p⟩
theorem zZ {lo:Int}{n:Nat}{g:TG}{tb:TS}{D:Ends}{σ:St}{H:Hp}(Pv:Nat->St->Hp->Prop) (h0:Pv 0 σ H)
  (hs:∀i σ H,i<n->Pv i σ H->g (.int (lo+i)) σ H λσ2 H2=>tb { D with nx:=Pv (i+1),ct:=Pv (i+1),bk:=D.nx } σ2 H2) (hd:∀σ H,Pv n σ H->D.nx σ H) :
  ∃W:Nat->Nat->St->Hp->Prop,(∃m,W 0 m σ H)/\∀i m σ H,W i m σ H ->
   ((Itr lo n).stop i H/\D.nx σ H)\/((Itr lo n).go i H/\∃N:St->Hp->Prop,(∀σ' H',N σ' H'->∃m',m'<m/\W (i+1) m' σ' H')/\∀x H',(Itr lo n).yld i H x H'->g x σ H' λσ2 H2=>tb { D with nx:=N,ct:=N,bk:=D.nx } σ2 H2):=by
 refine ⟨λi m σ H=>m=n-i/\i<=n/\Pv i σ H,⟨n,by simp,aO _,h0⟩,?_⟩
 rintro i m σ H ⟨rfl,hi,p⟩
 by_cases hlt:i<n
 ·refine .inr ⟨hlt,Pv (i+1),λσ' H' p'=>⟨n-(i+1),∅,rfl,hlt,p'⟩,λx H' y=>?_⟩
  obtain ⟨e,y⟩:=y
  subst e y
  exact hs i σ _ hlt p
 ·have e:i=n:=∅
  subst e
  exact .inl ⟨av _,hd σ H p⟩
theorem Qf {c:TT}{tb:TS}{D:Ends}{σ:St}{H:Hp}(Pv:St->Hp->Prop) (μ:St->Hp->Nat) (h0:Pv σ H)
  (hs:∀σ H,Pv σ H->c σ H λb H1=>if b=true then tb { D with nx:=λσ' H'=>Pv σ' H'/\μ σ' H'<μ σ H,ct:=λσ' H'=>Pv σ' H'/\μ σ' H'<μ σ H,bk:=D.nx } σ H1 else D.nx σ H1)
  (mono:∀σ H Q Q',(∀b H1,Q b H1->Q' b H1)->c σ H Q->c σ H Q'):YI c tb D σ H:=by
 refine ⟨λm σ H=>m=μ σ H/\Pv σ H,⟨_,rfl,h0⟩,?_⟩
 rintro m σ H ⟨rfl,p⟩
 refine mono σ H _ _ (λb H1 q=>?_) (hs σ H p)
 cases b with
 | true=>exact ⟨_,λσ' H' ⟨p',l⟩=>⟨_,l,rfl,p'⟩,q⟩
 | false=>exact q
end L2
namespace L2
noncomputable abbrev R2:=V->V->Hp->VK->Prop
noncomputable def OpR (X:Cx) (f:ah->ah->Sem ah) (r:R2):Prop :=
 ∀(pins:List (Addr×Obj)) (s:Shared) (σ:St) (H:Hp) (x y:V) (v u:ah) (Q:VK),Inv X pins σ H s->jK x v->jK y u->r x y H Q ->
  ay (aD X.prog X.w) X.A (f v u) (EP X pins σ Q) X.xe s
noncomputable def UnR (X:Cx) (f:ah->Sem ah) (r:V->Hp->VK->Prop):Prop :=
 ∀(pins:List (Addr×Obj)) (s:Shared) (σ:St) (H:Hp) (x:V) (v:ah) (Q:VK),Inv X pins σ H s->jK x v->r x H Q ->
  ay (aD X.prog X.w) X.A (f v) (EP X pins σ Q) X.xe s
noncomputable def qP (X:Cx) (f:ah) (r:List V->Hp->VK->Prop):Prop :=
 ∀(pins:List (Addr×Obj)) (s:Shared) (σ:St) (H:Hp) (xs:List V) (us:List ah) (Q:VK),Inv X pins σ H s->jI xs us->r xs H Q ->
  ay (aD X.prog X.w) X.A (call f us) (EP X pins σ Q) X.xe s
noncomputable def tOp (r:R2) (ta tb:TE):TE:=λσ H Q=>ta σ H λx H1=>tb σ H1 λy H2=>r x y H2 Q
noncomputable def tUn (r:V->Hp->VK->Prop) (ta:TE):TE:=λσ H Q=>ta σ H λx H1=>r x H1 Q
noncomputable def rI (C:Int->Int->Prop) (g:Int->Int->V):R2:=λx y H Q=>∃i j,x = .int i/\y = .int j/\C i j/\Q (g i j) H
noncomputable def rI0 (g:Int->Int->V):R2:=λx y H Q=>∃i j,x = .int i/\y = .int j/\Q (g i j) H
noncomputable def rU (g:Int->V):V->Hp->VK->Prop:=λx H Q=>∃i,x = .int i/\Q (g i) H
section
variable {X:Cx}{a b c:Expr}{ta tb tc:TE}{pos:Pos}
theorem Wu (ha:PE X a ta) (hb:PE X b tb) {pins:List (Addr×Obj)}{s:Shared}{σ:St}{H:Hp}{R:V->V->Hp->Prop}(I:Inv X pins σ H s)
  (h:ta σ H λx H1=>tb σ H1 λy H2=>R x y H2) {Q:ah->Shared->Prop} {f:ah->ah->Sem ah}
  (hf:∀v u s2 x y H2,Inv X pins σ H2 s2->jK x v->jK y u->R x y H2->ay (aD X.prog X.w) X.A (f v u) Q X.xe s2) :
  ay (aD X.prog X.w) X.A (eval a X.env) (λv s₁=>ay (aD X.prog X.w) X.A (eval b X.env) (λu s₂=>ay (aD X.prog X.w) X.A (f v u) Q X.xe s₂) X.xe s₁) X.xe s:=by
 refine thn (ha pins s σ H _ I h) λv s1 ⟨x,H1,I1,r1,q1⟩=>?_
 refine thn (hb pins s1 σ H1 _ I1 q1) λu s2 ⟨y,H2,I2,r2,q2⟩=>?_
 exact hf v u s2 x y H2 I2 r1 r2 q2
theorem jo {op:Operator}{r:R2}(ho:OpR X (ee op) r) (ha:PE X a ta) (hb:PE X b tb):PE X (.BinOp a op b pos) (tOp r ta tb):=by
 intro pins s σ H Q I h
 exact wpAny_BinOp (Wu ha hb I h λv u s2 x y H2 I2 rx ry q=>ho pins s2 σ H2 x y v u Q I2 rx ry q)
theorem Zs {op:UnaryOp}{r:V->Hp->VK->Prop}(ho:UnR X (unaryOp op) r) (ha:PE X a ta):PE X (.UnaryOp op a pos) (tUn r ta):=by
 intro pins s σ H Q I h
 exact UnaryOp_ (thn (ha pins s σ H _ I h) λv s1 ⟨x,H1,I1,r1,q1⟩=>ho pins s1 σ H1 x v Q I1 r1 q1)
theorem opI {f:ah->ah->Sem ah}{C:Int->Int->Prop}{g:Int->Int->Int}
  (rule:∀(i j:Int) (t u:Tok) (s:Shared) (Q:ah->Shared->Prop) (E:ah->Shared->Prop),C i j->Q (.int (g i j) s.toks) { s with toks:=s.toks+1 }->ay (aD X.prog X.w) X.A (f (.int i t) (.int j u)) Q E s) :
  OpR X f (rI C λi j=>.int (g i j)):=by
 intro pins s σ H x y v u Q I rx ry h
 obtain ⟨i,j,rfl,rfl,hc,q⟩:=h
 obtain ⟨t,rfl⟩:=rx
 obtain ⟨t',rfl⟩:=ry
 exact rule i j t t' s _ _ hc ⟨.int (g i j),H,I.tok _,⟨_,rfl⟩,q⟩
theorem WT {f:ah->ah->Sem ah}{g:Int->Int->Int}
  (rule:∀(i j:Int) (t u:Tok) (s:Shared) (Q:ah->Shared->Prop) (E:ah->Shared->Prop),Q (.int (g i j) s.toks) { s with toks:=s.toks+1 }->ay (aD X.prog X.w) X.A (f (.int i t) (.int j u)) Q E s) :
  OpR X f (rI0 λi j=>.int (g i j)):=by
 intro pins s σ H x y v u Q I rx ry h
 obtain ⟨i,j,rfl,rfl,q⟩:=h
 obtain ⟨t,rfl⟩:=rx
 obtain ⟨t',rfl⟩:=ry
 exact rule i j t t' s _ _ ⟨.int (g i j),H,I.tok _,⟨_,rfl⟩,q⟩
theorem Up {f:ah->ah->Sem ah}{g:Int->Int->Bool}
  (rule:∀(i j:Int) (t u:Tok) (s:Shared) (Q:ah->Shared->Prop) (E:ah->Shared->Prop),Q (.bool (g i j)) s->ay (aD X.prog X.w) X.A (f (.int i t) (.int j u)) Q E s) :
  OpR X f (rI0 λi j=>.bl (g i j)):=by
 intro pins s σ H x y v u Q I rx ry h
 obtain ⟨i,j,rfl,rfl,q⟩:=h
 obtain ⟨t,rfl⟩:=rx
 obtain ⟨t',rfl⟩:=ry
 exact rule i j t t' s _ _ ⟨.bl (g i j),H,I,rfl,q⟩
noncomputable def UV (i j:Int):Prop:=0<j/\j<1073741824
noncomputable def WW (i j:Int):Prop:=0<=j/\j<=1000000/\i.natAbs<2 ^ 64
noncomputable def V4 (i j:Int):Prop:=(-(2 ^ 64)<i/\i<2 ^ 64)\/(-(2 ^ 64)<j/\j<2 ^ 64)
theorem V4.ok {i j:Int}(h:V4 i j):IntMulOk i j:=by
 rcases h with ⟨h1,h2⟩ | ⟨h1,h2⟩
 ·exact .of_left (rX h1 h2)
 ·exact .of_right (rX h1 h2)
theorem qg:OpR X (ee .Add) (rI0 λi j=>.int (i+j)):=WT λ_ _ _ _ _ _ _ q=>add_int q
theorem xo:OpR X (ee .Sub) (rI0 λi j=>.int (i-j)):=WT λ_ _ _ _ _ _ _ q=>sub_int q
theorem uA:OpR X (ee .Mult) (rI V4 λi j=>.int (i*j)):=opI λ_ _ _ _ _ _ _ hc q=>mul_int q hc.ok
theorem VE:OpR X (ee .FloorDiv) (rI UV λi j=>.int (i / j)):=opI λi j _ _ _ _ _ hc q=>by
 have h1:(0:Int)<j:=hc.1
 have h2:j<1073741824:=hc.2
 exact floordiv_int ∅ (by rw [iH i ∅];exact q) (.inl (PyProof.noPylong_small ∅))
theorem zS:OpR X (ee .Mod) (rI (λ_ j=>0<j) λi j=>.int (i % j)):=opI λi j _ _ _ _ _ hc q=>by
 have h1:(0:Int)<j:=hc
 exact mod_int' ∅ (by rw [Int.fmod_eq_emod_of_nonneg i ∅];exact q)
theorem zR:OpR X (ee .Pow) (rI WW λi j=>.int (i ^ j.toNat)):=opI λ_ _ _ _ _ _ _ hc q=>pow_int_small hc.1 hc.2.1 hc.2.2 q
theorem unI {f:ah->Sem ah}{g:Int->Int}
  (rule:∀(i:Int) (t:Tok) (s:Shared) (Q:ah->Shared->Prop) (E:ah->Shared->Prop),Q (.int (g i) s.toks) { s with toks:=s.toks+1 }->ay (aD X.prog X.w) X.A (f (.int i t)) Q E s) :
  UnR X f (rU λi=>.int (g i)):=by
 intro pins s σ H x v Q I rx h
 obtain ⟨i,rfl,q⟩:=h
 obtain ⟨t,rfl⟩:=rx
 exact rule i t s _ _ ⟨.int (g i),H,I.tok _,⟨_,rfl⟩,q⟩
theorem Jz:UnR X (unaryOp .USub) (rU λi=>.int (-i)):=unI λ_ _ _ _ _ q=>neg_int q
end
noncomputable def WJ:V->V->Bool
 | .non,.non=>true | .non,.int _=>true | .int _,.non=>true | .non,.bl _=>true | .bl _,.non=>true | .non,.str _=>true | .str _,.non=>true
 | .int _,.int _=>true | .bl _,.bl _=>true | .str _,.str _=>true | .byt _,.byt _=>true
 | .int _,.str _=>true | .str _,.int _=>true | .bl _,.str _=>true | .str _,.bl _=>true
 | _,_=>false
noncomputable def rEq:R2:=λx y H Q=>WJ x y=true/\Q (.bl (decide (x=y))) H
noncomputable def rNe:R2:=λx y H Q=>WJ x y=true/\Q (.bl (!decide (x=y))) H
theorem Zl {i j:Int}:decide (V.int i=V.int j)=(i == j):=by
 rw [d7]
 simp
theorem YJ {i j:Bool}:decide (V.bl i=V.bl j)=(i == j):=by
 rw [d7]
 simp
theorem Z8 {i j:Str}:decide (V.str i=V.str j)=(i == j):=by
 rw [d7]
 simp
theorem Z7 {i j:Array UInt8}:decide (V.byt i=V.byt j)=(i.toList == j.toList):=by
 rw [d7]
 cases i
 cases j
 simp
section
variable {X:Cx}{a b c:Expr}{ta tb tc:TE}{pos:Pos}
theorem jT {pins:List (Addr×Obj)}{σ:St}{H:Hp}{s:Shared}{Q:VK}{k k':Bool}(I:Inv X pins σ H s) (q:Q (.bl k) H) (e:k=k'):EP X pins σ Q (.bool k') s:=by
 subst e
 exact ⟨.bl k,H,I,rfl,q⟩
theorem qh:OpR X (cu .Eq) rEq:=by
 intro pins s σ H x y v u Q I rx ry h
 obtain ⟨hs,q⟩:=h
 cases x with
 | non =>
  cases rx
  cases y with
  | non=>cases ry;exact PySem.EqNone.eq_none_none (jT I q (by simp))
  | bl j=>cases ry;exact PySem.EqNone.eq_none_bool (jT I q (by simp))
  | int j=>obtain ⟨t',rfl⟩:=ry;exact PySem.EqNone.eq_none_int (jT I q (by simp))
  | str j=>obtain ⟨t',rfl⟩:=ry;exact PySem.EqNone.eq_none_str (jT I q (by simp))
  | _=>exact absurd (show false=true from hs) ar
 | bl i =>
  cases rx
  cases y with
  | non=>cases ry;exact PySem.EqNone.eq_bool_none (jT I q (by simp))
  | bl j=>cases ry;exact eq_bool (jT I q YJ)
  | str j=>obtain ⟨t',rfl⟩:=ry;exact PySem.EqMixed.eq_bool_str (jT I q (by simp))
  | _=>exact absurd (show false=true from hs) ar
 | int i =>
  obtain ⟨t,rfl⟩:=rx
  cases y with
  | non=>cases ry;exact PySem.EqNone.eq_int_none (jT I q (by simp))
  | int j=>obtain ⟨t',rfl⟩:=ry;exact eq_int (jT I q Zl)
  | str j=>obtain ⟨t',rfl⟩:=ry;exact PySem.EqMixed.eq_int_str (jT I q (by simp))
  | _=>exact absurd (show false=true from hs) ar
 | str i =>
  obtain ⟨t,rfl⟩:=rx
  cases y with
  | non=>cases ry;exact PySem.EqNone.eq_str_none (jT I q (by simp))
  | bl j=>cases ry;exact PySem.EqMixed.eq_str_bool (jT I q (by simp))
  | int j=>obtain ⟨t',rfl⟩:=ry;exact PySem.EqMixed.eq_str_int (jT I q (by simp))
  | str j=>obtain ⟨t',rfl⟩:=ry;exact eq_str (jT I q Z8)
  | _=>exact absurd (show false=true from hs) ar
 | byt i =>
  obtain ⟨t,rfl⟩:=rx
  cases y with
  | byt j=>obtain ⟨t',rfl⟩:=ry;exact PySem.W.eq_bytes (jT I q Z7)
  | _=>exact absurd (show false=true from hs) ar
 | _=>cases y <;> exact absurd (show false=true from hs) ar
theorem Vs:OpR X (cu .NotEq) rNe:=by
 intro pins s σ H x y v u Q I rx ry h
 obtain ⟨hs,q⟩:=h
 cases x with
 | non =>
  cases rx
  cases y with
  | non=>cases ry;exact PySem.EqNone.ne_none_none (jT I q (by simp))
  | bl j=>cases ry;exact PySem.EqNone.ne_none_bool (jT I q (by simp))
  | int j=>obtain ⟨t',rfl⟩:=ry;exact PySem.EqNone.ne_none_int (jT I q (by simp))
  | str j=>obtain ⟨t',rfl⟩:=ry;exact PySem.EqNone.ne_none_str (jT I q (by simp))
  | _=>exact absurd (show false=true from hs) ar
 | bl i =>
  cases rx
  cases y with
  | non=>cases ry;exact PySem.EqNone.ne_bool_none (jT I q (by simp))
  | bl j=>cases ry;exact ne_bool (jT I q (congrArg not YJ))
  | str j=>obtain ⟨t',rfl⟩:=ry;exact PySem.EqMixed.ne_bool_str (jT I q (by simp))
  | _=>exact absurd (show false=true from hs) ar
 | int i =>
  obtain ⟨t,rfl⟩:=rx
  cases y with
  | non=>cases ry;exact PySem.EqNone.ne_int_none (jT I q (by simp))
  | int j=>obtain ⟨t',rfl⟩:=ry;exact ne_int (jT I q (congrArg not Zl))
  | str j=>obtain ⟨t',rfl⟩:=ry;exact PySem.EqMixed.ne_int_str (jT I q (by simp))
  | _=>exact absurd (show false=true from hs) ar
 | str i =>
  obtain ⟨t,rfl⟩:=rx
  cases y with
  | non=>cases ry;exact PySem.EqNone.ne_str_none (jT I q (by simp))
  | bl j=>cases ry;exact PySem.EqMixed.ne_str_bool (jT I q (by simp))
  | int j=>obtain ⟨t',rfl⟩:=ry;exact PySem.EqMixed.ne_str_int (jT I q (by simp))
  | str j=>obtain ⟨t',rfl⟩:=ry;exact ne_str (jT I q (congrArg not Z8))
  | _=>exact absurd (show false=true from hs) ar
 | byt i =>
  obtain ⟨t,rfl⟩:=rx
  cases y with
  | byt j=>obtain ⟨t',rfl⟩:=ry;exact PySem.W.ne_bytes (jT I q (congrArg not Z7))
  | _=>exact absurd (show false=true from hs) ar
 | _=>cases y <;> exact absurd (show false=true from hs) ar
theorem wc:OpR X (cu .Lt) (rI0 λi j=>.bl (decide (i<j))):=Up λ_ _ _ _ _ _ _ q=>lt_int q
theorem jS:OpR X (cu .LtE) (rI0 λi j=>.bl (decide (i<=j))):=Up λ_ _ _ _ _ _ _ q=>le_int q
theorem QS:OpR X (cu .Gt) (rI0 λi j=>.bl (decide (j<i))):=Up λ_ _ _ _ _ _ _ q=>gt_int q
theorem Uv:OpR X (cu .GtE) (rI0 λi j=>.bl (decide (j<=i))):=Up λ_ _ _ _ _ _ _ q=>ge_int q
theorem wX:OpR X (cu .Is) (λx y H Q=>y = .non/\Q (.bl (decide (x = .non))) H):=by
 intro pins s σ H x y v u Q I rx ry h
 obtain ⟨rfl,q⟩:=h
 cases ry
 refine is_none_gen (jT I q ?_)
 cases x <;> first
  | (cases rx;rfl)
  | (obtain ⟨t,rfl⟩:=rx;rfl)
theorem jt (b:Expr) {op:rh}(h:op≠.In:=by decide) (h2:op≠.NotIn:=by decide):eB op b=false:=by
 have e1:(op == CmpOp.In)=false:=by cases op <;> first | rfl | exact absurd rfl h
 have e2:(op == CmpOp.NotIn)=false:=by cases op <;> first | rfl | exact absurd rfl h2
 cases b <;> simp [eB,e1,e2]
theorem zj {op:rh}{r:R2}(ho:OpR X (cu op) r) (ha:PE X a ta) (hb:PE X b tb) (hm:eB op b=false):PE X (.Compare a [op] [b] pos) (tOp r ta tb):=by
 intro pins s σ H Q I h
 exact wpAny_Compare1 (Wu ha hb I h λv u s2 x y H2 I2 rx ry q=>ho pins s2 σ H2 x y v u Q I2 rx ry q) hm
noncomputable def Q6 (t:TE):TT:=λσ H Q=>t σ H λx H'=>∃k,x = .bl k/\Q k H'
theorem jn {op:rh}{r:R2}(ho:OpR X (cu op) r) (ha:PE X a ta) (hb:PE X b tb) (hm:eB op b=false):PT X (.Compare a [op] [b] pos) (Q6 (tOp r ta tb)):=by
 intro pins s σ H Q I h
 refine me (thn (ha pins s σ H _ I h) λv s1 ⟨x,H1,I1,r1,q1⟩=>thn (hb pins s1 σ H1 _ I1 q1) λu s2 ⟨y,H2,I2,r2,q2⟩ =>
  thn (ho pins s2 σ H2 x y v u _ I2 r1 r2 q2) λc s3 ⟨z,H3,I3,r3,k,e,q3⟩=>?_) hm
 subst e
 cases r3
 exact c3 ⟨H3,I3,q3⟩
noncomputable def YS (r r':R2) (ta tb tc:TE):TE:=λσ H Q=>ta σ H λx H1=>tb σ H1 λy H2=>r x y H2 λz H3=>∃k,z = .bl k /\
 (if k=true then tc σ H3 λw' H4=>r' y w' H4 Q else Q (.bl false) H3)
theorem xr {op op':rh}{r r':R2}(ho:OpR X (cu op) r) (ho':OpR X (cu op') r') (ha:PE X a ta) (hb:PE X b tb) (hc:PE X c tc)
  (hm:lastMarks [op,op'] [b,c]=false:=by with_unfolding_all rfl):PE X (.Compare a [op,op'] [b,c] pos) (YS r r' ta tb tc):=by
 intro pins s σ H Q I h
 refine Compare_chain (thn (ha pins s σ H _ I h) λv s1 ⟨x,H1,I1,r1,q1⟩=>chain_link (thn (hb pins s1 σ H1 _ I1 q1) λu s2 ⟨y,H2,I2,r2,q2⟩ =>
  thn (ho pins s2 σ H2 x y v u _ I2 r1 r2 q2) λd s3 ⟨z,H3,I3,r3,k,e,q3⟩=>?_)) hm
 subst e
 cases r3
 refine c3 ?_
 cases k with
 | false=>exact ite_ff ⟨.bl false,H3,I3,rfl,q3⟩
 | true=>exact ite_tt (chain_last (thn (hc pins s3 σ H3 _ I3 q3) λw' s4 ⟨z',H4,I4,r4,q4⟩=>ho' pins s4 σ H4 y z' u w' Q I4 r2 r4 q4))
theorem qC {op op':rh}{r r':R2}(ho:OpR X (cu op) r) (ho':OpR X (cu op') r') (ha:PE X a ta) (hb:PE X b tb) (hc:PE X c tc)
  (hm:lastMarks [op,op'] [b,c]=false:=by with_unfolding_all rfl):PT X (.Compare a [op,op'] [b,c] pos) (Q6 (YS r r' ta tb tc)):=by
 intro pins s σ H Q I h
 refine isTrue_chain (thn (ha pins s σ H _ I h) λv s1 ⟨x,H1,I1,r1,q1⟩=>test_link (thn (hb pins s1 σ H1 _ I1 q1) λu s2 ⟨y,H2,I2,r2,q2⟩ =>
  thn (ho pins s2 σ H2 x y v u _ I2 r1 r2 q2) λd s3 ⟨z,H3,I3,r3,k,e,q3⟩=>?_)) hm
 subst e
 cases r3
 refine c3 ?_
 cases k with
 | false =>
  obtain ⟨k',e',q'⟩:=q3
  cases e'
  exact ite_ff ⟨H3,I3,q'⟩
 | true =>
  refine ite_tt (test_last (thn (hc pins s3 σ H3 _ I3 q3) λw' s4 ⟨z',H4,I4,r4,q4⟩=>thn (ho' pins s4 σ H4 y z' u w' _ I4 r2 r4 q4) λd' s5 ⟨z2,H5,I5,r5,k2,e2,q5⟩=>?_))
  subst e2
  cases r5
  exact c3 ⟨H5,I5,q5⟩
theorem Jx:(sizeLine:Nat)<2 ^ 63:=by rw [bF];decide
theorem y7 {x:V}{us:List ah}(r:jI [x] us):∃u,us=[u]/\jK x u:=by
 cases r with
 | cons r1 r2=>cases r2;exact ⟨_,rfl,r1⟩
theorem Zb {x y:V}{us:List ah}(r:jI [x,y] us):∃u w',us=[u,w']/\jK x u/\jK y w':=by
 cases r with
 | cons r1 r2 =>
  cases r2 with
  | cons r3 r4=>cases r4;exact ⟨_,_,rfl,r1,r3⟩
theorem gq (hc:X.calm=true):qP X (.builtin "max") (λxs H Q=>∃i j,xs=[.int i,.int j]/\Q (.int (if j > i then j else i)) H):=by
 intro pins s σ H xs us Q I r h
 obtain ⟨i,j,rfl,q⟩:=h
 obtain ⟨u,w',rfl,⟨t,rfl⟩,⟨t',rfl⟩⟩:=Zb r
 refine max_two_ints (I.ok.hd hc) λh' tk k=>⟨_,H,I.kept k,?_,q⟩
 by_cases hj:j > i
 ·rw [if_pos hj,if_pos hj];exact ⟨_,rfl⟩
 ·rw [if_neg hj,if_neg hj];exact ⟨_,rfl⟩
theorem uy (hc:X.calm=true):qP X (.builtin "min") (λxs H Q=>∃i j,xs=[.int i,.int j]/\Q (.int (if j<i then j else i)) H):=by
 intro pins s σ H xs us Q I r h
 obtain ⟨i,j,rfl,q⟩:=h
 obtain ⟨u,w',rfl,⟨t,rfl⟩,⟨t',rfl⟩⟩:=Zb r
 refine min_two_ints (I.ok.hd hc) λh' tk k=>⟨_,H,I.kept k,?_,q⟩
 by_cases hj:j<i
 ·rw [if_pos hj,if_pos hj];exact ⟨_,rfl⟩
 ·rw [if_neg hj,if_neg hj];exact ⟨_,rfl⟩
theorem gQ:qP X (.type "int") (λxs H Q=>(∃i,xs=[.int i]/\Q (.int i) H)\/∃k,xs=[.bl k]/\Q (.int (if k then 1 else 0)) H):=by
 intro pins s σ H xs us Q I r h
 rcases h with ⟨i,rfl,q⟩ | ⟨k,rfl,q⟩
 ·obtain ⟨u,rfl,t,rfl⟩:=y7 r
  exact call_int_int ⟨.int i,H,I,⟨_,rfl⟩,q⟩
 ·obtain ⟨u,rfl,r1⟩:=y7 r
  cases r1
  exact call_int_bool ⟨.int (if k then 1 else 0),H,I.tok _,⟨_,rfl⟩,q⟩
end
end L2
namespace L2
structure ObjM (h:Heap) (x dx C:Addr) (mA:Str->Option ah):Prop where
 obj:h.get? x=some (d5 C dx)
 ns:h.Ns1 dx mA
 ne:dx≠x
theorem ZY {h:Heap}{dx:Addr}{mA:Str->Option ah}(n:h.Ns1 dx mA):∃od,h.get? dx=some od/\∀name,iI name od=some (mA name):=by
 obtain ⟨o,es,ep,ho,hd,hk,_,hm⟩:=n
 refine ⟨o,ho,λname=>?_⟩
 have e:=hm name
 unfold nsFind findBy at e
 rw [<- Array.find?_toList] at e
 unfold iI
 rw [hd]
 dsimp only
 split
 ·rename_i y q
  rw [q] at e
  exact congrArg some e
 ·rename_i q
  rw [q] at e
  have a:es.toList.any (·.refKey)=false:=by
   rw [List.any_eq_false]
   intro y hy
   obtain ⟨z,t,hkey⟩:=hk y (Array.mem_toList_iff.mp hy)
   simp [DictEntry.refKey,hkey]
  have a':¬es.toList.any (·.refKey)=true:=by rw [a];exact ar
  rw [if_neg a']
  exact congrArg some e
theorem ObjM.look {h:Heap}{x dx C:Addr}{mA:Str->Option ah}(I:ObjM h x dx C mA):∃od,rj h x (d5 C dx) C (some od)/\∀name,iI name od=some (mA name) :=
 let ⟨od,ho,hl⟩:=ZY I.ns
 ⟨od,⟨I.obj,rfl,rfl,ho⟩,hl⟩
section
variable {prog:Program}{w:aU}{A:b9}{E:ah->Shared->Prop}{s:Shared}{K:ai}{x dx C f:Addr}{mA:Str->Option ah}{name:Str}{v:ah}
theorem VX {expr:Bool}{Q:ah->Shared->Prop}(X:K.In s.heap) (I:ObjM s.heap x dx C mA) (hg:eS K C name=true) (hh:fI K C=true)
  (ha:bH K (.ref C) name=some none) (hv:mA name=some v) (hv':oV v=true) (h:Q v { s with toks:=s.toks+1 }) :
  ay (aD prog w) A (getAttr (.ref x) name expr) Q E s:=by
 obtain ⟨od,J,hl⟩:=I.look
 exact PySem.W.get_value X J (ir hg).1 (PySem.W.findObj_own hh ha rfl (by rw [hl,hv])) hv' h
theorem Vd {pl:Sem Bool}{Q:ah×List ah->Shared->Prop}(X:K.In s.heap) (I:ObjM s.heap x dx C mA) (hg:eS K C name=true)
  (hf:bH K (.ref C) name=some (some (.ref f))) (ht:og K (.ref f)=true) (hv:mA name=none) (h:Q (.ref f,[.ref x]) s) :
  ay (aD prog w) A (mP (.ref x) name pl) Q E s:=by
 obtain ⟨od,J,hl⟩:=I.look
 exact PySem.W.method_fn X J (ir hg).1 (ir hg).2 hf (beq_iff_eq.mp ht) (by show (iI name od).map (·.isSome)=some false;rw [hl,hv];rfl) h
theorem VY {ns:List Str}{Q:Unit->Shared->Prop}(X:K.In s.heap) (I:ObjM s.heap x dx C mA)
  (hs:bH K (.ref C) "__setattr__" = some (some (.builtin "object.__setattr__"))) (hp:iW K C=true) (ht:lW K C name=some none) (hh:fI K C=true)
  (hw:o9 mA ns) (hsz:ns.length<=sizeLine)
  (h:∀h',ObjM h' x dx C (λy=>if y=name then some v else mA y)->dX dx s.heap h'->Q () { s with heap:=h',toks:=s.toks+2 }) :
  ay (aD prog w) A (setAttr (.ref x) name v) Q E s:=by
 obtain ⟨od,J,hl⟩:=I.look
 refine PySem.W.set_plain X J hs (PySem.W.osa_open (s:={ s with toks:=s.toks+1 }) (r:=none) X J hp ht λb=>?_)
 obtain ⟨cd,hc,hd'⟩:=PySem.W.any_some hh
 have hx:s.heap.get? x=some ⟨.ref C,some dx,.plain,#[]⟩:=I.obj
 refine aa (wpAny_pure (aa (aa (rm hx (aa (PySem.W.Looks.here (s:={ s with toks:=s.toks+1 }) (PySem.W.looks_clsIn X hc) ?_))))))
 rw [hd']
 refine wpAny_pure (a:=some dx) (aa (wpAny_pure (aa ?_)))
 refine wpAny_nsSet1 (s:={ s with toks:=s.toks+1 }) I.ns λh' hn2 hs2=>?_
 obtain ⟨oD,esD,epD,hoD,hdD,hcD⟩:=hn2.count (PySem.Within.cons name v hw)
 refine aa (wpAny_lookBehind hoD (by rw [hdD];exact pastItsLine_dict (aF hcD (by rw [bq];omega))) ?_)
 exact wpAny_pure (h _ ⟨(hs2.2 _ (cE I.ne)).trans I.obj,hn2,I.ne⟩ hs2)
theorem Vv {R:mq->Shared->Prop}{vs:List ah}{kw:List (Str×ah)}(X:K.In s.heap) (hm:lX K C=true)
  (hi:bH K (.ref C) "__init__" = some (some (.ref f))) (hf:PySem.W.typeIn K (.ref f)=some (.type "function"))
  (h:cX (aD prog w) (A.under (.builtin "type.__call__" ⟨.ref C::vs,kw⟩)) (.call (.ref f) ⟨.ref (s.heap.objs.size+1)::vs,kw⟩) (PySem.W.InitBack (s.heap.objs.size+1) R)
   { s with heap:=(s.heap.push cp).push (d5 C s.heap.objs.size) }) :
  cX (aD prog w) A (.call (.ref C) ⟨vs,kw⟩) R s:=by
 obtain ⟨hh,g,d,t,os⟩:=s
 exact PySem.W.make_core (PySem.W.makes_of X hm) (PySem.W.looks_findIn X hi) (λself=>PySem.W.bind_fn X self hf) (.inl rfl) h
end
noncomputable def jv (f:Str) (v:V):List (Str×V)->List (Str×V)
 | []=>[(f,v)]
 | (g,x)::r=>if g=f then (g,v)::r else (g,x)::jv f v r
theorem jM (f g:Str) (v:V):∀fs:List (Str×V),(jv f v fs).lookup g=if g=f then some v else fs.lookup g
 | []=>by
  show dR g [(f,v)]=_
  by_cases h:g=f
  ·have hb:(g == f)=true:=beq_iff_eq.mpr h
   simp only [dR,hb,if_pos h]
  ·have hb:(g == f)=false:=beq_eq_false_iff_ne.mpr h
   simp only [dR,hb,if_neg h]
 | (k,x)::r=>by
  have ih:=jM f g v r
  rw [show jv f v ((k,x)::r)=(if k=f then (k,v)::r else (k,x)::jv f v r) from rfl]
  by_cases hk:k=f
  ·rw [if_pos hk]
   by_cases h:g=k
   ·have hb:(g == k)=true:=beq_iff_eq.mpr h
    simp only [dR,hb,if_pos (h.trans hk)]
   ·have hb:(g == k)=false:=beq_eq_false_iff_ne.mpr h
    simp only [dR,hb,if_neg (λe:g=f=>h (e.trans hk.symm))]
  ·rw [if_neg hk]
   by_cases h:g=k
   ·have hb:(g == k)=true:=beq_iff_eq.mpr h
    simp only [dR,hb,if_neg (λe:g=f=>hk (h.symm.trans e))]
   ·have hb:(g == k)=false:=beq_eq_false_iff_ne.mpr h
    simp only [dR,hb]
    exact ih
theorem uG (f:Str) (v:V):∀fs:List (Str×V),f∈(jv f v fs).map (·.1)/\∀g,g∈fs.map (·.1)->g∈(jv f v fs).map (·.1)
 | []=>⟨by simp [jv],λg h=>by simp at h⟩
 | (k,x)::r=>by
  obtain ⟨i1,i2⟩:=uG f v r
  rw [show jv f v ((k,x)::r)=(if k=f then (k,v)::r else (k,x)::jv f v r) from rfl]
  by_cases hk:k=f
  ·rw [if_pos hk]
   subst hk
   exact ⟨by simp,λg h=>by simpa using h⟩
  ·rw [if_neg hk]
   refine ⟨?_,λg h=>?_⟩
   ·rw [b8]
    exact aK _ i1
   ·rw [b8] at h ⊢
    rcases List.mem_cons.mp h with e | e
    ·exact List.mem_cons.mpr (.inl e)
    ·exact aK _ (i2 g e)
theorem qd (f:Str) (v:V):∀fs:List (Str×V),(jv f v fs).length<=fs.length+1
 | []=>by simp [jv]
 | (k,x)::r=>by
  have ih:=qd f v r
  rw [show jv f v ((k,x)::r)=(if k=f then (k,v)::r else (k,x)::jv f v r) from rfl]
  by_cases hk:k=f
  ·rw [if_pos hk,bq,bq];omega
  ·rw [if_neg hk,bq,bq];omega
theorem yQ.some_of {v:V}{o:Option ah}(r:yQ (some v) o):∃u,o=some u/\jK v u:=by
 cases o with
 | none=>exact (show False from r).elim
 | some u=>exact ⟨u,rfl,r⟩
theorem yQ.none_of {o:Option ah}(r:yQ none o):o=none:=by
 cases o with
 | none=>rfl
 | some u=>exact (show False from r).elim
theorem Y9 {v:V}{u:ah}(r:jK v u):oV u=true:=by
 cases v with
 | non=>cases (show u=aS from r);rfl
 | bl b=>cases (show u=lJ b from r);rfl
 | int i=>obtain ⟨t,e⟩:=(show ∃t,u=iD i t from r);cases e;rfl
 | str x=>obtain ⟨t,e⟩:=(show ∃t,u=lp x t from r);cases e;rfl
 | byt b=>obtain ⟨t,e⟩:=(show ∃t,u=Value.bytes b t from r);cases e;rfl
 | flt b=>obtain ⟨t,e⟩:=(show ∃t,u=pA b t from r);cases e;rfl
 | ref a=>cases (show u=b7 a from r);rfl
 | ty n=>cases (show u=fT n from r);rfl
section
variable {P:Program}{w:aU}{H H':Hp}{h h':Heap}{a C dx:Addr}{fs fs':List (Str×V)}
theorem wx (hok:HOk P w H h) (e:H a=some (.ins C dx fs)):∃mA,ObjM h a dx C mA/\(∀f,yQ (fs.lookup f) (mA f))/\o9 mA (fs.map (·.1))/\fs.length<=1000/\H dx=some (.own a):=by
 obtain ⟨d,z,ne,ob,mA,n,r,q⟩:=(show qw P w H h a (.ins C dx fs) from hok a _ e)
 exact ⟨mA,⟨ob,n,ne⟩,r,q,z,d⟩
end
structure Cls (K:ai) (C:Addr):Prop where
 pg:eS K C Str.empty=true
 hd:fI K C=true
 po:iW K C=true
 sa:bH K (.ref C) "__setattr__" = some (some (.builtin "object.__setattr__"))
theorem Cls.get {K:ai}{C:Addr}(c:Cls K C) (f:Str):eS K C f=true:=c.pg
noncomputable def zw (K:ai) (C:Addr) (f:Str):Prop:=bH K (.ref C) f=some none
theorem zw.taker {K:ai}{C:Addr}{f:Str}(n:zw K C f):lW K C f=some none:=by
 unfold lW
 rw [show bH K (.ref C) f=some none from n]
 rfl
structure Meth (K:ai) (C:Addr) (m:Str) (f:Addr):Prop where
 at_:bH K (.ref C) m=some (some (.ref f))
 fn:og K (.ref f)=true
 kp:bK K (.ref f)=true
section
variable {X:Cx}{pins:List (Addr×Obj)}{σ:St}{H:Hp}{s:Shared}{a C dx:Addr}{fs:List (Str×V)}{f:Str}{v:V}{A:b9}{E:ah->Shared->Prop}
theorem Xj {b:Bool}{Q:ah->Shared->Prop}(I:Inv X pins σ H s) (e:H a=some (.ins C dx fs)) (c:Cls X.K C) (n:zw X.K C f) (l:fs.lookup f=some v)
  (h:∀u s',Inv X pins σ H s'->jK v u->Q u s'):ay (aD X.prog X.w) A (getAttr (.ref a) f b) Q E s:=by
 obtain ⟨mA,O,r,_,_,_⟩:=wx I.hok e
 obtain ⟨u,hu,ru⟩:=yQ.some_of (v:=v) (o:=mA f) (by rw [<- l];exact r f)
 exact VX I.kIn O (c.get f) c.hd n hu (Y9 ru) (h u _ (I.tok _) ru)
theorem kh {m:Str}{g:Addr}{pl:Sem Bool}{Q:ah×List ah->Shared->Prop}(I:Inv X pins σ H s) (e:H a=some (.ins C dx fs)) (c:Cls X.K C) (k:Meth X.K C m g) (l:fs.lookup m=none)
  (h:Q (.ref g,[.ref a]) s):ay (aD X.prog X.w) A (mP (.ref a) m pl) Q E s:=by
 obtain ⟨mA,O,r,_,_,_⟩:=wx I.hok e
 have hn:mA m=none:=yQ.none_of (by rw [<- l];exact r m)
 exact Vd I.kIn O (c.get m) k.at_ k.fn hn h
theorem Z0 {y:V}{u:ah}{Q:Unit->Shared->Prop}(I:Inv X pins σ H s) (e:H a=some (.ins C dx fs)) (c:Cls X.K C) (n:zw X.K C f) (hl:fs.length<1000) (ry:jK y u)
  (h:∀s',Inv X pins σ (upd H a (.ins C dx (jv f y fs))) s'->Q () s'):ay (aD X.prog X.w) A (setAttr (.ref a) f u) Q E s:=by
 obtain ⟨mA,O,r,wi,_,ho⟩:=wx I.hok e
 have hz:(fs.map (·.1)).length<=sizeLine:=by rw [af,bF];omega
 refine VY I.kIn O c.sa c.po n.taker c.hd wi hz λh' O' sb=>h _ ?_
 have hd:∃o,h'.get? dx=some o:=let ⟨o,_,_,e',_⟩:=O'.ns;⟨o,e'⟩
 refine I.write (x:=a) (e:=dx) (by rw [e];exact cH) (.inr ho) (λb q hb z=>(sb.2 b hb).trans z) hd ?_
 refine ⟨by rw [ja O.ne];exact ho,?_,O.ne,O'.obj,_,O'.ns,λg=>?_,λg hg=>?_⟩
 ·have:=qd f y fs;omega
 ·show yQ ((jv f y fs).lookup g) (if g=f then some u else mA g)
  rw [jM]
  by_cases q:g=f
  ·rw [if_pos q,if_pos q];exact ry
  ·rw [if_neg q,if_neg q];exact r g
 ·by_cases q:g=f
  ·rw [q];exact (uG f y fs).1
  ·refine (uG f y fs).2 g (wi g λz=>hg ?_)
   show (if g=f then some u else mA g)=none
   rw [if_neg q];exact z
theorem Inv.made (I:Inv X pins σ H s):Inv X pins σ (upd (upd H s.heap.objs.size (.own (s.heap.objs.size+1))) (s.heap.objs.size+1) (.ins C s.heap.objs.size []))
  { s with heap:=(s.heap.push cp).push (d5 C s.heap.objs.size) }:=by
 have e1:(s.heap.push cp).get? s.heap.objs.size=some cp:=aA s.heap rfl
 have e2:((s.heap.push cp).push (d5 C s.heap.objs.size)).get? (s.heap.objs.size+1)=some (d5 C s.heap.objs.size):=by
  have:=aA (s.heap.push cp) (o:=d5 C s.heap.objs.size) rfl
  rwa [cx] at this
 have e3:(s.heap.push cp).Ns s.heap.objs.size (λ_=>none):=⟨cp,#[],_,e1,rfl,(λe he=>absurd he (by simp)),λ_=>rfl⟩
 have I1:=I.laid (a:=s.heap.objs.size) (o:=.own (s.heap.objs.size+1)) (h':=s.heap.push cp) (t':=s.toks) (λb u q=>ak _ q) (av _) ⟨_,e1⟩
 refine I1.laid (a:=s.heap.objs.size+1) (o:=.ins C s.heap.objs.size []) (t':=s.toks) (λb u q=>ak _ q) (oh (cx _ _)) ?_
 have ne:s.heap.objs.size≠s.heap.objs.size+1:=aB (fV _)
 refine ⟨by rw [ja ne,j8],aO _,ne,e2,λ_=>none,(Heap.Ns1.of_empty e3).at λo q=>ak _ q,λ_=>cH,λy hy=>absurd rfl hy⟩
theorem Ue {prog:Program}{w:aU}{env:Env}{e:Expr}{f:Str}{pos:Pos}{s:Shared}{Q:ah->Shared->Prop}(hb:f7 e f env (eval e env)=eval e env)
  (h:ay (aD prog w) A (eval e env) (λo s₁=>ay (aD prog w) A (getAttr o f true) Q E s₁) E s):ay (aD prog w) A (eval (.Attribute e f pos) env) Q E s :=
 Attribute_any_ h (by rw [arm_eval_Attribute,hb])
end
noncomputable def Gv (K:ai) (ta:TE) (f:Str):TE:=λσ H Q=>ta σ H λx H1=>∃a C dx fs v,x = .ref a/\H1 a=some (.ins C dx fs)/\Cls K C/\zw K C f/\fs.lookup f=some v/\Q v H1
noncomputable def G4 (K:ai) (ta tv:TE) (f:Str):TS:=λD σ H=>tv σ H λy H1=>ta σ H1 λx H2=>∃a C dx fs,x = .ref a/\H2 a=some (.ins C dx fs)/\Cls K C/\zw K C f/\fs.length<1000 /\
 D.nx σ (upd H2 a (.ins C dx (jv f y fs)))
section
variable {X:Cx}{o e value:Expr}{f:Str}{pos pos' tpos:Pos}{ta tv:TE}
theorem Wy (he:PE X e ta) (hb:f7 e f X.env (eval e X.env)=eval e X.env):PE X (.Attribute e f pos) (Gv X.K ta f):=by
 intro pins s σ H Q I h
 refine Ue hb (thn (he pins s σ H _ I h) λu s1 ⟨x,H1,I1,rx,a,C,dx,fs,v,ex,ea,c,n,l,q⟩=>?_)
 subst ex
 obtain rfl:u=b7 a:=rx
 exact Xj I1 ea c n l λu' s2 I2 ru=>⟨v,H1,I2,ru,q⟩
theorem Wg (ha:PE X o ta) (hv:PE X value tv) (hs:iE value (some (.Attribute o f pos')) pos.line X.env=pure false):PS X (.Assign [.Attribute o f pos'] value pos) (G4 X.K ta tv f):=by
 intro pins s σ H D I h
 refine plainObj_wpAny_Assign_Attribute (thn (hv pins s σ H _ I h) λu s1 ⟨y,H1,I1,ry,q⟩=>thn (ha pins s1 σ H1 _ I1 q) λov s2 ⟨x,H2,I2,rx,a,C,dx,fs,ex,ea,c,n,l,q2⟩=>?_) hs
 subst ex
 obtain rfl:ov=b7 a:=rx
 exact Z0 I2 ea c n l ry λs3 I3=>⟨σ,_,I3,q2⟩
end
section
variable {X:Cx}{pins:List (Addr×Obj)}{σ:St}{H:Hp}{s:Shared}{A:b9}{E:ah->Shared->Prop}{Q:ah->Shared->Prop}{c:ah}{b:Bool}
inductive TyOf (K:ai) (H:Hp):V->ah->Prop where
 | non:TyOf K H .non (.type "NoneType")
 | bl (x:Bool):TyOf K H (.bl x) (.type "bool")
 | int (i:Int):TyOf K H (.int i) (.type "int")
 | str (x:Str):TyOf K H (.str x) (.type "str")
 | flt (x:UInt64):TyOf K H (.flt x) (.type "float")
 | lst {a:Addr} {xs:List V} (e:H a=some (.lst xs)):TyOf K H (.ref a) (.type "list")
 | frz {a:Addr} {o:Obj} {xs:List V} (e:H a=some (.frz o (.lst xs))):TyOf K H (.ref a) (.type "list")
 | tup {a:Addr} {xs:List V} (e:H a=some (.tup xs)):TyOf K H (.ref a) (.type "tuple")
 | dK {a:Addr} {kvs:List (Key×V)} (e:H a=some (.dK kvs)):TyOf K H (.ref a) (.type "dict")
 | dT {a:Addr} {kvs:List (List Key×V)} (e:H a=some (.dT kvs)):TyOf K H (.ref a) (.type "dict")
 | ins {a C dx:Addr} {fs:List (Str×V)} (e:H a=some (.ins C dx fs)) (cl:Cls K C) (ha:bH K (.ref C) "__class__" = some (some (.builtin "object.__class__")))
   (hn:PySem.W.specialIn K (.builtin "object.__class__") "__get__" = some (some (.builtin "getset_descriptor.__get__"))) (htk:PySem.W.takesIn K (.builtin "object.__class__")=some true)
   (hm:PySem.W.mroIn K C (.type "object")=some true):TyOf K H (.ref a) (.ref C)
theorem ZT {x:V}{u t:ah}(I:Inv X pins σ H s) (rx:jK x u) (ty:TyOf X.K H x t) (e:aG X.K t c=some b) (h:∀tk,Q (.bool b) { s with toks:=tk }) :
  ay (aD X.prog X.w) A (call (.builtin "isinstance") [u,c]) Q E s:=by
 cases ty with
 | non=>cases (show u=aS from rx);exact bT PySem.W.kitx_none I.kIn cH e (λz=>nomatch z) h
 | bl y=>cases (show u=lJ y from rx);exact bT PySem.W.kitx_bool I.kIn cH e (λz=>nomatch z) h
 | int i=>obtain ⟨t,q⟩:=(show ∃t,u=iD i t from rx);cases q;exact bT PySem.W.kitx_int I.kIn cH e (λz=>nomatch z) h
 | str y=>obtain ⟨t,q⟩:=(show ∃t,u=lp y t from rx);cases q;exact bT PySem.W.kitx_str I.kIn cH e (λz=>nomatch z) h
 | flt y=>obtain ⟨t,q⟩:=(show ∃t,u=pA y t from rx);cases q;exact bT PySem.W.kitx_float I.kIn cH e (λz=>nomatch z) h
 | @lst a xs ea =>
  cases (show u=b7 a from rx)
  obtain ⟨_,_,n,_,h1⟩:=(show qw X.prog X.w H s.heap a (.lst xs) from I.hok a _ ea)
  exact bT oj I.kIn ⟨_,h1,rfl⟩ e (λz=>nomatch z) h
 | @frz a ob xs ea =>
  cases (show u=b7 a from rx)
  obtain ⟨_,_,_,n,_,h1⟩:=(show qw X.prog X.w H s.heap a (.frz ob (.lst xs)) from I.hok a _ ea)
  exact bT oj I.kIn ⟨_,h1,rfl⟩ e (λz=>nomatch z) h
 | @tup a xs ea =>
  cases (show u=b7 a from rx)
  obtain ⟨_,_,_,p⟩:=(show qw X.prog X.w H s.heap a (.tup xs) from I.hok a _ ea)
  obtain ⟨o,h1,h2,_⟩:=p
  exact bT PySem.W.kitx_tuple I.kIn ⟨o,h1,h2⟩ e (λz=>nomatch z) h
 | @dK a kvs ea =>
  cases (show u=b7 a from rx)
  obtain ⟨_,_,vs,_,p⟩:=(show qw X.prog X.w H s.heap a (.dK kvs) from I.hok a _ ea)
  obtain ⟨o,es,ep,h1,h2,_⟩:=p
  exact bT om I.kIn ⟨o,h1,h2.1⟩ e (λz=>nomatch z) h
 | @dT a kvs ea =>
  cases (show u=b7 a from rx)
  obtain ⟨_,_,xs,_,o,es,ep,h1,h2,_⟩:=(show qw X.prog X.w H s.heap a (.dT kvs) from I.hok a _ ea)
  exact bT om I.kIn ⟨o,h1,h2.1⟩ e (λz=>nomatch z) h
 | @ins a C dx fs ea cl ha hn htk hm =>
  cases (show u=b7 a from rx)
  obtain ⟨mA,O,_⟩:=wx I.hok ea
  obtain ⟨od,J,_⟩:=O.look
  exact bT (PySem.W.kitx_own (cl.get _) cl.hd ha hn htk hm) I.kIn J e (λz=>nomatch z) h
end
end L2
namespace L2
structure Room (k:Nat) (A:b9):Prop where
 hd:A.handled=none
 dp:A.depth+3*k+5<recursionLimit
 un:A.units+16*k+200<cLine
theorem Room.mono {j k:Nat}{A:b9}(r:Room k A) (h:j<=k):Room j A:=⟨r.hd,by have:=r.dp;omega,by have:=r.un;omega⟩
theorem Room.deeper {k:Nat}{A:b9}(r:Room (k+1) A) (env:Env):Room k (A.deeper env) :=
 ⟨r.hd,by have:=r.dp;show A.depth+1+3*k+5<_;omega,by have:=r.un;show A.units+3+16*k+200<_;omega⟩
theorem Room.in1 {k:Nat}{A:b9}(r:Room (k+1) A):Room k A.in1 :=
 ⟨r.hd,by have:=r.dp;show A.depth+3*k+5<_;omega,by have:=r.un;show A.units+1+16*k+200<_;omega⟩
theorem Xr {A:b9}{C:Addr}{us:List ah}{kw:List (Str×ah)}:(A.under (.builtin "type.__call__" ⟨.ref C::us,kw⟩)).depth=A.depth+1:=by
 first | rfl | simp [oo,Code.weight,Code.isCreation,Code.isGuard,Code.isCaller,Code.frames,oq,guardIds]
theorem XJ {A:b9}{C:Addr}{us:List ah}{kw:List (Str×ah)}:(A.under (.builtin "type.__call__" ⟨.ref C::us,kw⟩)).units=A.units+1:=by
 first | rfl | simp [oo,Code.cUnits,Code.frames,oq]
theorem Room.make {k:Nat}{A:b9}(r:Room (k+1) A) (C:Addr) (us:List ah) (kw:List (Str×ah)):Room k (A.under (.builtin "type.__call__" ⟨.ref C::us,kw⟩)) :=
 ⟨r.hd,by have:=r.dp;rw [Xr];omega,by have:=r.un;rw [XJ];omega⟩
theorem Room.depth {k:Nat}{A:b9}(r:Room k A):A.depth<recursionLimit:=by have:=r.dp;omega
theorem Room.units {k:Nat}{A:b9}(r:Room k A):A.units+64<cLine:=by have:=r.un;omega
noncomputable def Xo:TA:=λ_ H Q=>Q [] H
noncomputable def G8 (ta:TE) (tr:TA):TA:=λσ H Q=>ta σ H λx H1=>tr σ H1 λxs H2=>Q (x::xs) H2
section
variable {X:Cx}{e:Expr}{es:List Expr}{te:TE}{t:TA}{pos:Pos}
theorem j5:PA X [] Xo:=λ_ _ _ _ H Q I h=>ou ⟨[],H,I,.nil,h⟩
theorem j2 (ha:PE X e te) (hr:PA X es t) (hs:aN (e::es) X.env=(false,eval e X.env)::aN es X.env:=by rfl):PA X (e::es) (G8 te t):=by
 intro pos pins s σ H Q I h
 rw [hs]
 show ay _ _ (spliced ((false,eval e X.env)::cT pos (aN es X.env))) _ _ s
 refine nK (thn (ha pins s σ H _ I h) λu s1 ⟨x,H1,I1,r1,q1⟩=>?_)
 exact thn (hr pos pins s1 σ H1 _ I1 q1) λus s2 ⟨xs,H2,I2,r2,q2⟩=>⟨x::xs,H2,I2,.cons r1 r2,q2⟩
end
noncomputable abbrev Sp:=List V->Hp->VK->XK->Prop
noncomputable abbrev CXT:=List Env->Hp->Shared->XK->ah->Shared->Prop
structure Env0 (P:Program) (w:aU) (K:ai) (mg:Str->Option ah) (base:Heap) (A:b9) (outer:List Env) (s:Shared) (H:Hp):Prop where
 frames:A.frames=some outer
 mod:Mod K mg base
 bs:∀b o,base.get? b=some o->s.heap.get? b=some o/\H b=none
 bsz:base.objs.size<=s.heap.objs.size
 funs:s.heap.FunFrames base outer
 frf:∀b∈frs outer,H b=none
 hok:HOk P w H s.heap
 bare:fY s.gens
noncomputable def CE (outer:List Env) (P:Program) (w:aU) (H:Hp) (s:Shared) (Q:VK) (u:ah) (s':Shared):Prop :=
 ∃v H',s'.os=s.os/\fY s'.gens/\Un (frs outer) [] H H' s.heap s'.heap/\HOk P w H' s'.heap/\jK v u/\Q v H'
noncomputable def CR (CX:CXT) (outer:List Env) (P:Program) (w:aU) (H:Hp) (s:Shared) (Q:VK) (E:XK) (r:mq) (s':Shared):Prop :=
 match r with
 | .ok (.ret u)=>CE outer P w H s Q u s'
 | .ok _=>False
 | .error e=>CX outer H s E e s'
structure FnOk (P:Program) (w:aU) (K:ai) (mg:Str->Option ah) (base:Heap) (CX:CXT) (k:Nat) (f:Addr) (fd:FuncData) (ps:List Str) (sp:Sp):Prop where
 len:∀vs H Q E,sp vs H Q E->vs.length=ps.length
 run:∀(A:b9) (outer:List Env) (s:Shared) (H:Hp) (args:Args) (us:List ah) (vs:List V) (Q:VK) (E:XK),Room k A->Env0 P w K mg base A outer s H->ow s fd args (ps.zip us)->jI vs us->sp vs H Q E ->
  cX (aD P w) A (.call (.ref f) args) (CR CX outer P w H s Q E) s
theorem Env0.make {P:Program}{w:aU}{K:ai}{mg:Str->Option ah}{base:Heap}{A:b9}{outer:List Env}{s:Shared}{H:Hp}(e:Env0 P w K mg base A outer s H) (C:Addr) (us:List ah) (kw:List (Str×ah)) :
  Env0 P w K mg base (A.under (.builtin "type.__call__" ⟨.ref C::us,kw⟩)) outer s H:=⟨by first | exact e.frames | (simpa [oo,Code.envs,oq,pushEnvs] using e.frames),e.mod,e.bs,e.bsz,e.funs,e.frf,e.hok,e.bare⟩
theorem Env0.in1 {P:Program}{w:aU}{K:ai}{mg:Str->Option ah}{base:Heap}{A:b9}{outer:List Env}{s:Shared}{H:Hp}(e:Env0 P w K mg base A outer s H) :
  Env0 P w K mg base A.in1 outer s H:=⟨e.frames,e.mod,e.bs,e.bsz,e.funs,e.frf,e.hok,e.bare⟩
section
variable {X:Cx}{pins:List (Addr×Obj)}{σ:St}{H:Hp}{s s':Shared}
theorem Inv.env0 (I:Inv X pins σ H s):Env0 X.prog X.w X.K X.mg X.base X.A X.stack s H :=
 ⟨I.ok.frames,I.ok.mod,I.bs,aF I.ok.bsz I.sz,I.stack,I.stkFree,I.hok,I.bare⟩
theorem Inv.after {Q:VK}{u:ah}(I:Inv X pins σ H s) (h:CE X.stack X.prog X.w H s Q u s'):EP X pins σ Q u s':=by
 obtain ⟨v,H',os,bare,un,hok,r,q⟩:=h
 obtain ⟨hh,g,d,t,os'⟩:=s'
 obtain rfl:os'=s.os:=os
 exact ⟨v,H',I.call (h':=hh) (g':=g) (d':=d) (t':=t) (ch:=[]) un hok bare (λb z=>absurd z (by simp)),r,q⟩
end
noncomputable def Uw (sp:Sp) (dvs:List V) (E:XK) (t:TA):TE:=λσ H Q=>t σ H λvs H1=>sp (vs++dvs) H1 Q E
noncomputable def UD (C:Addr) (m:Str) (sp:Sp) (dvs:List V) (E:XK) (ta:TE) (t:TA):TE:=λσ H Q=>ta σ H λx H1=>∃a dx fs,x = .ref a/\H1 a=some (.ins C dx fs)/\fs.lookup m=none /\
 t σ H1 λvs H2=>sp (x::(vs++dvs)) H2 Q E
noncomputable def y9 (K:ai) (fd:FuncData) (ps:List Str) (ds:List ah):Prop :=
 ∀(s:Shared) (us:List ah),K.In s.heap->(us++ds).length=ps.length->ow s fd ⟨us,[]⟩ (ps.zip (us++ds))
theorem y9.all {K:ai}{fd:FuncData}{ps:List Str}(h:∀us:List ah,us.length=ps.length->cC fd ⟨us,[]⟩=pure (ps.zip us)):y9 K fd ps []:=λs us _ hl=>by
 rw [aP] at hl ⊢
 exact .of_eq (h us hl)
noncomputable def JA (CX:CXT) (X:Cx) (E:XK):Prop:=∀(pins:List (Addr×Obj)) (σ:St) (H:Hp) (s:Shared) (e:ah) (s':Shared),Inv X pins σ H s->CX X.stack H s E e s'->X.xe e s'
section
variable {X:Cx}{CX:CXT}{k:Nat}{f C:Addr}{fd:FuncData}{ps:List Str}{sp:Sp}{dvs:List V}{ds:List ah}{E:XK}{x m:Str}{p pos apos:Pos}{e o:Expr}{es:List Expr}{ta:TE}{t:TA}
theorem Vx {pins:List (Addr×Obj)}{σ:St}{H:Hp}{s:Shared}{Q:VK}{us:List ah}{vs:List V}(F:FnOk X.prog X.w X.K X.mg X.base CX k f fd ps sp) (hr:Room k X.A) (hb:y9 X.K fd ps ds) (hd:jI dvs ds) (hx:JA CX X E)
  (I:Inv X pins σ H s) (r:jI vs us) (h:sp (vs++dvs) H Q E):ay (aD X.prog X.w) X.A (call (.ref f) us) (EP X pins σ Q) X.xe s:=by
 have r2:jI (vs++dvs) (us++ds):=r.append hd
 have hl:(us++ds).length=ps.length:=by rw [<- r2.length];exact F.len _ _ _ _ h
 refine fm (de (F.run X.A X.stack s H ⟨us,[]⟩ (us++ds) (vs++dvs) Q E hr I.env0 (hb s us I.kIn hl) r2 h) λr s' hq=>?_)
 cases r with
 | error e=>exact hx pins σ H s e s' I hq
 | ok fl =>
  cases fl with
  | ret u=>exact I.after hq
  | next=>exact bp hq
  | brk=>exact bp hq
  | cont=>exact bp hq
theorem Uf (F:FnOk X.prog X.w X.K X.mg X.base CX k f fd ps sp) (hr:Room k X.A) (hg:Gl X x) (hm:X.mg x=some (.ref f)) (hk:bK X.K (.ref f)=true) (hb:y9 X.K fd ps ds) (hd:jI dvs ds) (hx:JA CX X E)
  (ha:PA X (e::es) t) (hdb:(x == ("__debug__" : Str))=false:=by decide) (he:aN (e::es) X.env=(false,eval e X.env)::aN es X.env:=by rfl) (hpl:(cT pos (aN es X.env)).any (·.1)=false:=by rfl) :
  PE X (.Call (.Name x p) (e::es) [] pos) (Uw sp dvs E t):=by
 intro pins s σ H Q I h
 refine cU (ym I hg hm ?_ hdb)
 refine dj (h₀:=X.base) I.ok.mod.kin hk (thn (ha pos pins s σ H _ I h) λus s1 ⟨vs,H1,I1,r,q⟩=>⟨I1.kIn,?_⟩) he hpl
 exact Vx F hr hb hd hx I1 r q
theorem VH {pl:Sem Bool}(he:PE X o ta) (c:Cls X.K C) (hm:Meth X.K C m f) (F:FnOk X.prog X.w X.K X.mg X.base CX k f fd ps sp) (hr:Room k X.A) (hb:y9 X.K fd ps ds) (hd:jI dvs ds) (hx:JA CX X E) (ha:PA X (e::es) t)
  (hst:aN (e::es) X.env=(false,eval e X.env)::aN es X.env:=by rfl) (hpl:(cT pos (aN es X.env)).any (·.1)=false:=by rfl)
  (ht:eval (.Call (.Attribute o m apos) (e::es) [] pos) X.env=(do
   let ov <- eval o X.env
   fZ apos.atName
   let (f,first) <- i0 [ov] (mP ov m pl)
   sJ pos f first (cT pos (aN (e::es) X.env)) (mr pos (i7 [] X.env))):=by rfl) :
  PE X (.Call (.Attribute o m apos) (e::es) [] pos) (UD C m sp dvs E ta t):=by
 intro pins s σ H Q I h
 refine mh (pl:=pl) (thn (he pins s σ H _ I h) λu s1 ⟨x,H1,I1,rx,a,dx,fs,ex,ea,l,q⟩=>?_) ht
 subst ex
 obtain rfl:u=b7 a:=rx
 refine kh I1 ea c hm l ?_
 refine dj (first:=[.ref a]) (h₀:=X.base) I.ok.mod.kin hm.kp (thn (ha pos pins s1 σ H1 _ I1 q) λus s2 ⟨vs,H2,I2,r,q2⟩=>⟨I2.kIn,?_⟩) hst hpl
 exact Vx (us:=.ref a::us) (vs:=.ref a::vs) F hr hb hd hx I2 (.cons rfl r) q2
structure Mk (K:ai) (C f:Addr):Prop where
 makes:lX K C=true
 init:bH K (.ref C) "__init__" = some (some (.ref f))
 fn:og K (.ref f)=true
 kp:bK K (.ref C)=true
end
section
variable {X:Cx}{CX:CXT}{k:Nat}{f C:Addr}{fd:FuncData}{ps ks:List Str}{sp:Sp}{E:XK}{x m:Str}{p pos apos kpos:Pos}{e o:Expr}{es:List Expr}{kws:List lM}{te ta:TE}{t tk:TA}{nm:Option Str}
variable {g:List ah->List ah->List ah}{gV:List V->List V->List V}
end
structure FnScope (N P:List Str) (sc:Scope):Prop where
 kind:sc.kind = .function
 co:sc.isCoroutine=false
 gen:sc.isGenerator=false
 nd:N.Nodup
 pre:N.take P.length=P
 par:∀x∈P,sc.names.lookup x=some .local\/sc.names.lookup x=some .cell
 nofree:∀y∈sc.names,y.2≠.free
theorem gP {kindOf:Str->Option fJ}{x:Str}:∀{binds:List (Str×ah)}{m:Str->Option ah},(∀v,(x,v)∉binds)->pE kindOf binds m x=m x
 | [],_,_=>rfl
 | (n,v)::r,m,h=>by
  unfold pE
  rw [gP λw hw=>h w (aK _ hw)]
  split
  ·have:x≠n:=by rintro rfl;exact h v bh
   simp [this]
  ·rfl
theorem gH {kindOf:Str->Option fJ}{x:Str}:∀{binds:List (Str×ah)}{m:Str->Option ah},(∀v,(x,v)∉binds)->pG kindOf binds m x=m x
 | [],_,_=>rfl
 | (n,v)::r,m,h=>by
  unfold pG
  rw [gH λw hw=>h w (aK _ hw)]
  split
  ·rfl
  ·have:x≠n:=by rintro rfl;exact h v bh
   simp [this]
theorem gh {kindOf:Str->Option fJ}{x:Str}{v:ah}:∀{P:List Str}{vs:List ah}{i:Nat}{m:Str->Option ah},P.Nodup->P[i]? = some x->vs[i]? = some v->kindOf x=some .local ->
  pE kindOf (P.zip vs) m x=some v
 | [],_,_,_,_,h,_,_=>by simp at h
 | _::_,[],_,_,_,_,h,_=>by simp at h
 | p::P,w::vs,0,m,nd,h1,h2,hk=>by
  simp at h1 h2;subst h1;subst h2
  show pE kindOf ((p,w)::P.zip vs) m p=_
  unfold pE
  rw [gP λv hv=>(List.nodup_cons.mp nd).1 (fk hv).1,if_pos hk]
  simp
 | p::P,w::vs,i+1,m,nd,h1,h2,hk=>by
  show pE kindOf ((p,w)::P.zip vs) m x=_
  unfold pE
  exact gh (i:=i) (List.nodup_cons.mp nd).2 (by simpa using h1) (by simpa using h2) hk
theorem gv {kindOf:Str->Option fJ}{x:Str}{v:ah}:∀{P:List Str}{vs:List ah}{i:Nat}{m:Str->Option ah},P.Nodup->P[i]? = some x->vs[i]? = some v->kindOf x≠some .local ->
  pG kindOf (P.zip vs) m x=some v
 | [],_,_,_,_,h,_,_=>by simp at h
 | _::_,[],_,_,_,_,h,_=>by simp at h
 | p::P,w::vs,0,m,nd,h1,h2,hk=>by
  simp at h1 h2;subst h1;subst h2
  show pG kindOf ((p,w)::P.zip vs) m p=_
  unfold pG
  rw [gH λv hv=>(List.nodup_cons.mp nd).1 (fk hv).1,if_neg hk]
  simp
 | p::P,w::vs,i+1,m,nd,h1,h2,hk=>by
  show pG kindOf ((p,w)::P.zip vs) m x=_
  unfold pG
  exact gv (i:=i) (List.nodup_cons.mp nd).2 (by simpa using h1) (by simpa using h2) hk
noncomputable def start (N:List Str) (vs:List V):St:=vs.map some++dm (N.length-vs.length) none
noncomputable def vp (CX:CXT) (P:Program) (w:aU) (K:ai) (mg:Str->Option ah) (base:Heap) (N:List Str) (qual:Str) (scope:Scope) (f:Addr) (cd:ah) (A:b9) (outer:List Env) (s:Shared) (H:Hp) (E:XK):Cx where
 prog:=P
 w:=w
 K:=K
 mg:=mg
 base:=base
 A:=A.deeper (ie qual scope s.heap.objs.size f cd)
 N:=N
 s₀:=s
 H₀:=H
 env:=ie qual scope s.heap.objs.size f cd
 outer:=outer
 stack:=ie qual scope s.heap.objs.size f cd::outer
 ex:=[]
 calm:=true
 fn:=λ_=>true
 pn:=[]
 xe:=λe s'=>ay (aD P w) (A.deeper (ie qual scope s.heap.objs.size f cd)) (mQ (ie qual scope s.heap.objs.size f cd) e) (λ_ s''=>CX outer H s E e s'') (λe' s''=>CX outer H s E e' s'') s'
theorem QD {sc:Scope}{n:Nat}{x:Str}(h:sc.names.lookup x=some .cell):∃c,(lx n sc.names []).lookup x=some c:=by
 have q:=dY sc.names n [] (.inl h)
 exact Option.isSome_iff_exists.mp q
theorem uw {CX:CXT}{P:Program}{w:aU}{K:ai}{mg:Str->Option ah}{base:Heap}{N ps:List Str}{qual:Str}{scope:Scope}{f:Addr}{cd:ah}{A:b9}{outer:List Env}{s s1:Shared}{H:Hp}{E:XK}{us:List ah}{vs:List V}
  (S:FnScope N ps scope) (hd:A.handled=none) (e0:Env0 P w K mg base A outer s H) (hl:vs.length=ps.length) (r:jI vs us)
  (x:InCallC s s.heap.objs.size (pE (ie qual scope s.heap.objs.size f cd).kindOf (ps.zip us) λ_=>none) (lx (s.heap.objs.size+1) scope.names []) (pG (ie qual scope s.heap.objs.size f cd).kindOf (ps.zip us) λ_=>none) s1) :
  Inv (vp CX P w K mg base N qual scope f cd A outer s H E) [] (start N vs) H s1:=by
 have hpl:ps.length<=N.length:=by have:=congrArg i8 S.pre;rw [aT] at this;omega
 obtain ⟨h1,tk,rfl,hk⟩:=x.done
 have noA:∀b:Addr,b∉(vp CX P w K mg base N qual scope f cd A outer s H E).ex:=λb z=>absurd (show b∈([]:List Addr) from z) (by simp)
 refine ⟨⟨e0.mod,S.kind,rfl,rfl,av _,λy z c h1 h2=>?_,λy hy=>?_,λy c _ h=>?_,λ_=>hd,mv e0.frames,.inr ⟨rfl,rfl⟩,λb z=>absurd z (noA b),e0.bs,e0.bsz,λb _ _=>noA b,λb z=>absurd z (noA b),e0.funs,e0.frf⟩,
  rfl,e0.bare,Un.kept hk,⟨_,x.toInCall.ns,λi y v h1 h2 h3=>?_⟩,λy c h=>⟨_,x.cell y c h⟩,e0.hok.fresh (av _),λy c h=>?_,λp hp=>absurd (show p∈([]:List (Addr×Obj)) from hp) (by simp),e0.hok.kept hk,?_⟩
 ·exact name_of_addr x.apart (d9 h1) (d9 h2)
 ·have hy:scope.names.lookup y=some .cell\/scope.names.lookup y=some .free:=hy
  rcases hy with hy | hy
  ·exact QD hy
  ·exact absurd rfl (S.nofree _ (d9 hy))
 ·exact cV (x.above y c (d9 h))
 ·have hi:i<vs.length:=by
   unfold start at h2
   by_cases hi:i<vs.length
   ·exact hi
   ·rw [cI (by simpa using hi)] at h2
    rw [ly] at h2
    split at h2 <;> cases h2
  have ha:vs[i]? = some v:=by
   unfold start at h2
   rw [cS (by simpa using hi),aq] at h2
   cases e:vs[i]? with
   | none=>rw [e] at h2;cases h2
   | some a=>rw [e] at h2;cases h2;rfl
  obtain ⟨u,hu,rv⟩:=r.get ha
  have hp:ps[i]? = some y:=by
   rw [<- S.pre,List.getElem?_take_of_lt ∅];exact h1
  have ndP:ps.Nodup:=by rw [<- S.pre];exact S.nd.sublist (List.take_sublist _ _)
  refine ⟨u,rv,?_⟩
  rcases S.par y (au hp) with k | k
  ·exact .inl ⟨k,gh ndP hp hu k⟩
  ·obtain ⟨c,e⟩:=QD (n:=s.heap.objs.size+1) k
   refine .inr ⟨.inl k,c,e,?_⟩
   have q:=x.cell y c e
   rw [gv ndP hp hu (by show scope.names.lookup y≠_;rw [k];decide)] at q
   exact q
 ·exact e0.hok.fresh (cV (x.above y c (d9 h)))
 ·unfold start
  show _=N.length
  rw [az,af,eG]
  omega
theorem Yz {CX:CXT}{P:Program}{w:aU}{K:ai}{mg:Str->Option ah}{base:Heap}{k:Nat}{f:Addr}{name qual:Str}{params:Arguments}{body:List Stmt}{scope:Scope}{dV kV doc pm cdv ct oc:ah}{an od:Option Addr}
  {osl:Array (Option ah)} {N ps:List Str} {sp:Sp} (lk:K.lookup f=some ⟨oc,od,.func (bD name qual params body scope dV kV doc pm an cdv ct),osl⟩) (hcd:cz K cdv qual=true) (S:FnScope N ps scope)
  (len:∀vs H Q E,sp vs H Q E->vs.length=ps.length)
  (hbody:∀(A:b9) (outer:List Env) (s:Shared) (H:Hp) (vs:List V) (Q:VK) (E:XK),Room k (A.deeper (ie qual scope s.heap.objs.size f cdv))->sp vs H Q E ->
   ∃t,PSs (vp CX P w K mg base N qual scope f cdv A outer s H E) body t/\t { nx:=λ_ H'=>Q .non H',rt:=Q } (start N vs) H) :
  FnOk P w K mg base CX (k+1) f (bD name qual params body scope dV kV doc pm an cdv ct) ps sp:=by
 refine ⟨len,λA outer s H args us vs Q E hr e0 hb r hsp=>?_⟩
 have hl:=len _ _ _ _ hsp
 have KX:K.In s.heap:=e0.mod.kin.keeps λb o e=>(e0.bs b o e).1
 have lim:s.heap.NoLimit:=e0.mod.nolimit.keeps λb o e=>(e0.bs b o e).1
 have hkind:∀y∈ps.zip us,scope.names.lookup y.1=some .local\/(scope.names.lookup y.1=some .cell/\((lx (s.heap.objs.size+1) scope.names []).lookup y.1).isSome=true):=λ⟨n,v⟩ hy=>by
  rcases S.par n (fk hy).1 with q | q
  ·exact .inl q
  ·exact .inr ⟨q,dY _ _ _ (.inl q)⟩
 refine mi hr.depth (KX _ _ lk) rfl S.co S.gen rfl (nM KX hcd) (hb _ _ _ _ ?_)
 refine eN S.kind hkind λenv he s1 x=>?_
 subst he
 refine ⟨lim.keeps x.toInCall.keep,codeAny_func ?_⟩
 obtain ⟨t,ht,hq⟩:=hbody A outer s H vs Q E (hr.deeper _) hsp
 have I:Inv (vp CX P w K mg base N qual scope f cdv A outer s H E) [] (start N vs) H s1:=uw S hr.hd e0 hl r x
 refine aW (ht [] s1 (start N vs) H _ I hq) (λfl s' hs=>?_) λe s' hs=>hs
 have fin:∀{σ':St} {H':Hp} {v:V} {u:ah},Inv (vp CX P w K mg base N qual scope f cdv A outer s H E) [] σ' H' s'->jK v u->Q v H'->CE outer P w H s Q u s' :=
  λ{σ' H' v u} J rv q=>⟨v,H',J.os,J.bare,J.base,J.hok,rv,q⟩
 cases fl with
 | ret u =>
  obtain ⟨v,σ',H',J,rv,q⟩:=hs
  exact fin J rv q
 | next =>
  obtain ⟨σ',H',J,q⟩:=hs
  exact fin (v:=V.non) (u:=aS) J rfl q
 | brk =>
  obtain ⟨_,_,_,q⟩:=hs
  exact bp q
 | cont =>
  obtain ⟨_,_,_,q⟩:=hs
  exact bp q
end L2
namespace L2
section
variable {X:Cx}{x:Str}{p pos:Pos}{e:Expr}{es:List Expr}{t:TA}{id T:String}{r:List V->Hp->VK->Prop}
noncomputable def tCB (r:List V->Hp->VK->Prop) (t:TA):TE:=λσ H Q=>t σ H λvs H1=>r vs H1 Q
theorem jd (hc:qP X (.builtin id) r) (hg:Gl X x) (hm:X.mg x=none) (hv:eR x=some (.builtin id)) (ha:PA X (e::es) t) (hn:x ≠ "__name__":=by decide) (hdb:(x == ("__debug__" : Str))=false:=by decide)
  (he:aN (e::es) X.env=(false,eval e X.env)::aN es X.env:=by rfl) (hpl:(cT pos (aN es X.env)).any (·.1)=false:=by rfl):PE X (.Call (.Name x p) (e::es) [] pos) (tCB r t):=by
 intro pins s σ H Q I h
 refine cU (yS I hg hm hv ?_ hn hdb)
 exact PyProof.Rows.callWith_builtin1 (thn (ha pos pins s σ H _ I h) λus s1 ⟨vs,H1,I1,r1,q1⟩=>hc pins s1 σ H1 vs us Q I1 r1 q1) he hpl
theorem jL (hc:qP X (.type T) r) (hg:Gl X x) (hm:X.mg x=none) (hv:eR x=some (.type T)) (ha:PA X (e::es) t) (hn:x ≠ "__name__":=by decide) (hdb:(x == ("__debug__" : Str))=false:=by decide)
  (he:aN (e::es) X.env=(false,eval e X.env)::aN es X.env:=by rfl) (hpl:(cT pos (aN es X.env)).any (·.1)=false:=by rfl):PE X (.Call (.Name x p) (e::es) [] pos) (tCB r t):=by
 intro pins s σ H Q I h
 refine cU (yS I hg hm hv ?_ hn hdb)
 exact cF (thn (ha pos pins s σ H _ I h) λus s1 ⟨vs,H1,I1,r1,q1⟩=>hc pins s1 σ H1 vs us Q I1 r1 q1) he hpl
end
end L2
namespace HT
open PySem PyProof.Rows
section
open PySem.SeqAt
open PySem.AutoSeq1 (wpAny_loadPart')
open PySem.MeetsSeq PySem.MeetsSeq2 PySem.MeetsSeq3
end
section
variable {prog:Program}{w:aU}{A:b9}{E:ah->Shared->Prop}{s:Shared}
theorem cat_tup {t b:Addr}{vs ws:List ah}{Q:ah->Shared->Prop}(ht:rf s.heap t vs.toArray) (hb:rf s.heap b ws.toArray) (hv:vs≠[])
  (h1:ws=[]->Q (.ref t) s) (h2:ws≠[]->Q (.ref s.heap.objs.size) { s with heap:=s.heap.push { cls:=.type "tuple",data:=.seq (vs++ws).toArray } })
  (hsz:vs.length+ws.length<=sizeLine):ay (aD prog w) A (ee .Add (.ref t) (.ref b)) Q E s:=by
 obtain ⟨⟨cls,dd,data,sl⟩,ho,hc,n,hd⟩:=id ht
 obtain ⟨⟨cls2,dd2,data2,sl2⟩,ho2,hc2,n2,hd2⟩:=id hb
 simp only at hc hd hc2 hd2
 subst hc hd hc2 hd2
 have e:vs.toArray++ws.toArray=(vs++ws).toArray:=by simp
 by_cases hw:ws=[]
 ·exact oz ⟨_,ho,rfl⟩ ⟨_,ho2,rfl⟩ lA ni fK fv (fc _ _)
   (tuple_addW1 t b vs.toArray ws.toArray n n2 dd dd2 sl sl2 (by simpa using hv) (by simp [hw])) ⟨ho,ho2,h1 hw⟩
 ·refine oz ⟨_,ho,rfl⟩ ⟨_,ho2,rfl⟩ lA ni fK fv (fc _ _)
   (tuple_addW2 t b vs.toArray ws.toArray n n2 dd dd2 sl sl2 (by simpa using hv) (by simpa using hw) (by rw [ax,ax];exact hsz)) ⟨ho,ho2,?_⟩
  rw [e]
  exact h2 hw
noncomputable def sIx (n d:Nat):Option Int->Nat
 | none=>d
 | some v=>if v<0 then (v+(n:Int)).toNat else min v.toNat n
theorem Wj (n d:Nat) (hd:d<=n) (o:Option Int):sIx n d o<=n:=by
 cases o with
 | none=>exact hd
 | some v =>
  show (if v<0 then (v+(n:Int)).toNat else min v.toNat n)<=n
  by_cases hv:v<0
  ·rw [if_pos hv];omega
  ·rw [if_neg hv];exact Nat.min_le_right _ _
theorem Zh (v:Int) (n d:Nat):(if v<0 then max (v+(n:Int)) 0 else min v (n:Int))=((sIx n d (some v):Nat):Int):=by
 show (if v<0 then max (v+(n:Int)) 0 else min v (n:Int))=(((if v<0 then (v+(n:Int)).toNat else min v.toNat n):Nat):Int)
 by_cases hv:v<0
 ·simp only [if_pos hv];omega
 ·simp only [if_neg hv];omega
theorem XN (lo hi:Option Int) (n:Nat):cj lo hi 1 (n:Int)=(((sIx n 0 lo:Nat):Int),((sIx n n hi:Nat):Int)):=by
 have h1:¬((1:Int)<0):=∅
 unfold cj
 simp only [h1,if_false]
 refine Prod.ext ?_ ?_
 ·cases lo with
  | none=>rfl
  | some v=>exact Zh v n 0
 ·cases hi with
  | none=>rfl
  | some v=>exact Zh v n n
theorem XT (i j:Nat):bJ (i:Int) (j:Int) 1=j-i:=by
 unfold bJ
 have h1:(1:Int) > 0:=∅
 simp only [h1,if_true,Int.ediv_one]
 split <;> omega
theorem slicePart_ {v:ah}{o:Option Int}{Q:Option Int->Shared->Prop}(p:lN v o) (h:Q o s):ay (aD prog w) A (Builtin.Slice.slicePartIndex v) Q E s:=by
 cases p with
 | none=>exact rn h
 | int i t=>exact slicePart_int h
theorem uS {sl:Addr}{vl vu:ah}{lo hi:Option Int}{n:Nat}{Q:Int×Int×Nat->Shared->Prop}(hs:s.heap.IsSliceOf sl vl vu .none) (pl:lN vl lo) (pu:lN vu hi)
  (h:Q (((sIx n 0 lo:Nat):Int),1,sIx n n hi-sIx n 0 lo) s):ay (aD prog w) A (dq (.ref sl) (pure (n:Int))) Q E s:=by
 obtain ⟨os,hos,hcs,hds⟩:=id hs
 unfold dq iS
 refine aa (aa (bw hos hds (x:=vl) rfl (aa (bw hos hds (x:=vu) rfl (aa (bw hos hds (x:=.none) rfl (wpAny_pure ?_)))))))
 refine aa (rn ?_)
 show ay _ _ (if ((1:Int) == 0)=true then _ else _) _ _ s
 rw [if_neg ⋯]
 refine aa (slicePart_ pl (aa (slicePart_ pu (aa (wpAny_pure ?_)))))
 show ay _ _ (match cj lo hi 1 (n:Int) with | (lo,hi)=>pure (lo,(1:Int),bJ lo hi 1)) _ _ s
 rw [XN lo hi n]
 show ay _ _ (pure (((sIx n 0 lo:Nat):Int),(1:Int),bJ ((sIx n 0 lo:Nat):Int) ((sIx n n hi:Nat):Int) 1)) _ _ s
 rw [XT]
 exact wpAny_pure h
theorem V3 (xs:Array ah) (i k:Nat):((aV k).filterMap λ(m:Nat)=>xs[((i:Int)+(m:Int)*1).toNat]?).toArray=((xs.toList.drop i).take k).toArray:=by
 have e:(λ(m:Nat)=>xs[((i:Int)+(m:Int)*1).toNat]?)=λm=>xs[i+m]?:=by
  funext m
  have:((i:Int)+(m:Int)*1).toNat=i+m:=∅
  rw [this]
 rw [e]
 have:=pick_run xs i k
 rw [nN] at this
 have e2:((λx=>xs[x]?) ∘ λx=>i+x)=λm=>xs[i+m]?:=rfl
 rw [e2] at this
 rw [this]
theorem getItem_tuple_cut {t sl:Addr}{items:Array ah}{vl vu:ah}{lo hi:Option Int}{Q:ah->Shared->Prop}(ht:rf s.heap t items) (hs:s.heap.IsSliceOf sl vl vu .none) (pl:lN vl lo) (pu:lN vu hi)
  (hw:¬(sIx items.size 0 lo=0/\sIx items.size items.size hi=items.size))
  (h:Q (.ref s.heap.objs.size) { s with heap:=s.heap.push { cls:=.type "tuple",data:=.seq ((items.toList.drop (sIx items.size 0 lo)).take (sIx items.size items.size hi-sIx items.size 0 lo)).toArray } })
  (hsz:items.size<=sizeLine):ay (aD prog w) A (iA (.ref t) (.ref sl)) Q E s:=by
 have htake:sizeOk (.seq ((items.toList.drop (sIx items.size 0 lo)).take (sIx items.size items.size hi-sIx items.size 0 lo)).toArray):=by
  show ((items.toList.drop (sIx items.size 0 lo)).take (sIx items.size items.size hi-sIx items.size 0 lo)).toArray.size<=sizeLine
  rw [ax,aT,oW,bN]
  omega
 have hj:sIx items.size items.size hi<=items.size:=Wj _ _ (av _) hi
 obtain ⟨os,hos,hcs,hds⟩:=id hs
 have hTs:s.TypeIs (.ref sl) "slice":=⟨os,hos,hcs⟩
 unfold iA
 try with_reducible refine bC ?_
 first | refine aa (wpAny_pure ?_) | skip
 refine aa (oA ht.typeIs ⋯ ?_)
 refine aa (bP (name:=aj "__getitem__") ht.typeIs cR
  (cf cR ht.typeIs mV ?_ (nO _ _)))
 show ay _ _ (iJ (.ref t) >>= _) _ _ s
 refine aa (rZ ht ?_)
 refine aa (wpAny_typeOf hTs ?_)
 rw [if_pos ⋯]
 refine aa (uS hs pl pu ?_)
 have hno:¬((((sIx items.size 0 lo:Nat):Int) == 0 && (1:Int) == 1 && (sIx items.size items.size hi-sIx items.size 0 lo) == items.size)=true):=by
  intro q
  rw [ba,ba] at q
  have q1:((sIx items.size 0 lo:Nat):Int)=0:=su q.1.1
  have q2:sIx items.size items.size hi-sIx items.size 0 lo=items.size:=su q.2
  exact hw ⟨∅,∅⟩
 show ay _ _ (if (((sIx items.size 0 lo:Nat):Int) == 0 && (1:Int) == 1 && (sIx items.size items.size hi-sIx items.size 0 lo) == items.size)=true then _ else _) _ _ s
 rw [if_neg hno,V3]
 first
  | exact aa (m:=bM _) (bx (wpAny_pure ⟨_,rfl,wpAny_pure h⟩) htake)
  | exact aa (m:=bM _) (bx (aa (wpAny_pure (wpAny_pure ⟨_,rfl,wpAny_pure h⟩))) htake)
  | exact aa (aa (m:=bM _) (bx (wpAny_pure (wpAny_pure ⟨_,rfl,wpAny_pure h⟩)) htake))
  | exact aa (aa (m:=bM _) (bx (wpAny_pure ⟨_,rfl,wpAny_pure h⟩) htake))
end
end HT
namespace L2
noncomputable abbrev TO:=St->Hp->(Option Int->Hp->Prop)->Prop
noncomputable def PO (X:Cx) (e:Option Expr) (t:TO):Prop :=
 ∀(pins:List (Addr×Obj)) (s:Shared) (σ:St) (H:Hp) (Q:Option Int->Hp->Prop),Inv X pins σ H s->t σ H Q ->
  ay (aD X.prog X.w) X.A (evalPart e X.env) (λu s'=>∃o H',Inv X pins σ H' s'/\lN u o/\Q o H') X.xe s
noncomputable def VF:TO:=λ_ H Q=>Q none H
noncomputable def WS (t:TE):TO:=λσ H Q=>t σ H λx H1=>∃i,x = .int i/\Q (some i) H1
section
variable {X:Cx}{e:Expr}{te:TE}{lo hi:Option Expr}{tl th:TO}{pos p2:Pos}
theorem Zn:PO X none VF:=by
 intro pins s σ H Q I h
 rw [l9]
 exact wpAny_pure ⟨none,H,I,.none,h⟩
theorem ZH (h:PE X e te):PO X (some e) (WS te):=by
 intro pins s σ H Q I hw
 rw [nj]
 refine thn (h pins s σ H _ I hw) λu s1 ⟨x,H1,I1,r1,q1⟩=>?_
 obtain ⟨i,rfl,q⟩:=q1
 obtain ⟨t,rfl⟩:=r1
 exact ⟨some i,H1,I1,.int i t,q⟩
noncomputable def SlR (X:Cx) (r:V->Option Int->Option Int->Hp->VK->Prop):Prop :=
 ∀(pins:List (Addr×Obj)) (s:Shared) (σ:St) (H:Hp) (x:V) (v vl vu:ah) (lo hi:Option Int) (sl:Addr) (Q:VK),Inv X pins σ H s->jK x v->s.heap.IsSliceOf sl vl vu .none->lN vl lo->lN vu hi->r x lo hi H Q ->
  ∃T id,rp (.type T) "__getitem__" = pure (some (.builtin id))/\s.TypeIs v T/\ay (aD X.prog X.w) X.A (iA v (.ref sl)) (EP X pins σ Q) X.xe s
noncomputable def tSl (r:V->Option Int->Option Int->Hp->VK->Prop) (te:TE) (tl th:TO):TE:=λσ H Q=>te σ H λx H1=>tl σ H1 λl H2=>th σ H2 λu H3=>r x l u H3 Q
theorem QK {r:V->Option Int->Option Int->Hp->VK->Prop}(hr:SlR X r) (he:PE X e te) (hl:PO X lo tl) (hu:PO X hi th):PE X (.Subscript e (.Slice lo hi none p2) pos) (tSl r te tl th):=by
 intro pins s σ H Q I h
 refine lO (thn (he pins s σ H _ I h) λv s1 ⟨x,H1,I1,r1,q1⟩=>?_)
 refine pH (thn (hl pins s1 σ H1 _ I1 q1) λvl s2 ⟨l,H2,I2,pl,q2⟩=>thn (hu pins s2 σ H2 _ I2 q2) λvu s3 ⟨u,H3,I3,pu,q3⟩=>?_)
 rw [l9]
 refine wpAny_pure ?_
 have I4:Inv X pins σ H3 { s3 with heap:=s3.heap.push { cls:=.type "slice",data:=.fields #[vl,vu,.none] } }:=I3.kept (t':=s3.toks) λb ob q=>ak _ q
 obtain ⟨T,id,hT,ht,hg⟩:=hr pins { s3 with heap:=s3.heap.push { cls:=.type "slice",data:=.fields #[vl,vu,.none] } } σ H3 x v vl vu l u s3.heap.objs.size Q I4 r1 (iK ..) pl pu q3
 show ay (aD X.prog X.w) X.A (i4 e (.Slice lo hi none p2) v (.ref s3.heap.objs.size)) (EP X pins σ Q) X.xe { s3 with heap:=s3.heap.push { cls:=.type "slice",data:=.fields #[vl,vu,.none] } }
 exact sL (ops:=[.ref s3.heap.objs.size,v]) ht hT hg (by with_unfolding_all rfl)
noncomputable def XS (xs:List V) (lo hi:Option Int):List V:=(xs.drop (HT.sIx xs.length 0 lo)).take (HT.sIx xs.length xs.length hi-HT.sIx xs.length 0 lo)
theorem uY (xs:List V) (lo hi:Option Int):(XS xs lo hi).length<=xs.length:=by
 unfold XS
 rw [aT,oW]
 omega
noncomputable def rSlT (K:ai):V->Option Int->Option Int->Hp->VK->Prop:=λx lo hi H Q=>∃a xs,x = .ref a/\SqT K H a xs /\
 ¬(HT.sIx xs.length 0 lo=0/\HT.sIx xs.length xs.length hi=xs.length)/\∀p,H p=none->Q (.ref p) (upd H p (.tup (XS xs lo hi)))
theorem WB:SlR X (rSlT X.K):=by
 intro pins s σ H x v vl vu lo hi sl Q I rx hs pl pu h
 obtain ⟨a,xs,rfl,hx,hw,q⟩:=h
 cases rx
 obtain ⟨its,r,ht,hz⟩:=I.tuple hx
 have hlen:its.toArray.size=xs.length:=by rw [ax];exact r.length.symm
 refine ⟨"tuple",_,PyProof.Rows.slot_tuple_getitem.lookup,ht.typeIs,?_⟩
 refine HT.getItem_tuple_cut ht hs pl pu (by rw [hlen];exact hw) ?_ (by rw [hlen];exact hz)
 rw [hlen]
 refine ⟨.ref s.heap.objs.size,_,I.laid (t':=s.toks) (o:=.tup (XS xs lo hi)) (λb ob q=>ak _ q) (av _) ?_,rfl,q _ (I.hok.fresh (av _))⟩
 exact ⟨aF (uY xs lo hi) hz,_,(r.drop (HT.sIx xs.length 0 lo)).take (HT.sIx xs.length xs.length hi-HT.sIx xs.length 0 lo),oX _ _⟩
noncomputable def WH (K:ai):R2:=λx y H Q=>∃a b xs ys,x = .ref a/\y = .ref b/\SqT K H a xs/\SqT K H b ys/\xs≠[]/\xs.length+ys.length<=sizeLine /\
 (ys=[]->Q (.ref a) H)/\(ys≠[]->∀p,H p=none->Q (.ref p) (upd H p (.tup (xs++ys))))
theorem jI.nil_iff {xs:List V}{us:List ah}(r:jI xs us):us=[]↔xs=[]:=by
 cases r with
 | nil=>simp
 | cons _ _=>simp
theorem Uq:OpR X (ee .Add) (WH X.K):=by
 intro pins s σ H x y v u Q I rx ry h
 obtain ⟨a,b,xs,ys,rfl,rfl,ha,hb,hx,hz,q1,q2⟩:=h
 cases rx
 cases ry
 obtain ⟨its,r1,p1,_⟩:=I.tuple ha
 obtain ⟨its2,r2,p2,_⟩:=I.tuple hb
 refine HT.cat_tup p1 p2 (λz=>hx (r1.nil_iff.mp z)) (λz=>⟨.ref a,H,I,rfl,q1 (r2.nil_iff.mp z)⟩) (λz=>?_) (by rw [<- r1.length,<- r2.length];exact hz)
 refine ⟨.ref s.heap.objs.size,_,I.laid (t':=s.toks) (o:=.tup (xs++ys)) (λb ob q=>ak _ q) (av _) ?_,rfl,q2 (λw=>z (r2.nil_iff.mpr w)) _ (I.hok.fresh (av _))⟩
 exact ⟨by rw [az];exact hz,_,r1.append r2,oX _ _⟩
end
end L2
namespace L2
noncomputable def ixN (n:Nat) (i:Int):Option Nat:=if 0<=i then (if i<n then some i.toNat else none) else if -(n:Int)<=i then some (i+n).toNat else none
noncomputable def atI {α:Type}(xs:List α) (i:Int):Option α:=(ixN xs.length i).bind λj=>xs[j]?
theorem ZI {n:Nat}{i:Int}{j:Nat}(h:ixN n i=some j):seqIndex? i n=some j/\j<n /\ -(n:Int)<=i/\i<n:=by
 unfold ixN at h
 by_cases h0:0<=i
 ·rw [if_pos h0] at h
  by_cases h1:i<n
  ·rw [if_pos h1] at h
   have e:i.toNat=j:=bg h
   exact ⟨by rw [pI h0 h1,e],∅,∅,h1⟩
  ·rw [if_neg h1] at h;cases h
 ·rw [if_neg h0] at h
  by_cases h1 : -(n:Int)<=i
  ·rw [if_pos h1] at h
   have e:(i+n).toNat=j:=bg h
   exact ⟨by rw [oB ∅ h1,e],∅,h1,∅⟩
  ·rw [if_neg h1] at h;cases h
theorem Zu {α:Type}{xs:List α}{i:Int}{v:α}(h:atI xs i=some v):∃j,seqIndex? i xs.length=some j/\xs[j]? = some v/\j<xs.length /\ -(xs.length:Int)<=i/\i<xs.length:=by
 unfold atI at h
 cases e:ixN xs.length i with
 | none=>rw [e] at h;cases h
 | some j =>
  rw [e] at h
  obtain ⟨h1,h2,h3,h4⟩:=ZI e
  exact ⟨j,h1,h,h2,h3,h4⟩
theorem vm {α:Type}{xs:List α}{j:Nat}{v:α}(h:xs[j]? = some v):atI xs (j:Int)=some v:=by
 have hj:j<xs.length:=(List.getElem?_eq_some_iff.mp h).1
 have e:ixN xs.length (j:Int)=some j:=by
  unfold ixN
  rw [if_pos ∅,if_pos ∅];simp
 unfold atI;rw [e];exact h
theorem V2 {α:Type}(xs:List α) (v:α):atI (xs++[v]) (-1)=some v:=by
 have hl:(xs++[v]).length=xs.length+1:=by simp
 have e:ixN (xs++[v]).length (-1)=some xs.length:=by
  unfold ixN
  rw [hl,if_neg ⋯,if_pos ∅]
  congr 1
  omega
 unfold atI
 rw [e]
 show (xs++[v])[xs.length]? = some v
 simp
noncomputable def VO (b:Expr):Prop:=∀o i,mw b false o i=operate [o,i] (iA o i)
noncomputable def IxR (X:Cx) (r:R2):Prop :=
 ∀(value slice:Expr) (pins:List (Addr×Obj)) (s:Shared) (σ:St) (H:Hp) (x y:V) (v u:ah) (Q:VK),Inv X pins σ H s->jK x v->jK y u->r x y H Q ->
  mw slice false v u=operate [v,u] (iA v u)->ay (aD X.prog X.w) X.A (i4 value slice v u) (EP X pins σ Q) X.xe s
noncomputable def MtR (X:Cx) (id:String) (r:V->List V->Hp->VK->Prop):Prop :=
 ∀(pins:List (Addr×Obj)) (s:Shared) (σ:St) (H:Hp) (x:V) (xs:List V) (v:ah) (us:List ah) (Q:VK),Inv X pins σ H s->jK x v->jI xs us->r x xs H Q ->
  ay (aD X.prog X.w) X.A (call (.builtin id) (v::us)) (EP X pins σ Q) X.xe s
section
variable {X:Cx}{a b:Expr}{ta tb:TE}{pos:Pos}
theorem jk {r:R2}(hr:IxR X r) (ha:PE X a ta) (hb:PE X b tb) (hs:VO b):PE X (.Subscript a b pos) (tOp r ta tb):=by
 intro pins s σ H Q I h
 exact lO (Wu ha hb I h λv u s2 x y H2 I2 rx ry q=>hr a b pins s2 σ H2 x y v u Q I2 rx ry q (hs _ _))
noncomputable def Wi (K:ai):R2:=λx y H Q=>∃p xs i v,x = .ref p/\y = .int i/\SqL K H p xs/\atI xs i=some v/\Q v H
noncomputable def W5 (K:ai):R2:=λx y H Q=>∃p xs i v,x = .ref p/\y = .int i/\SqT K H p xs/\atI xs i=some v/\Q v H
theorem VW:IxR X (Wi X.K):=by
 intro value slice pins s σ H x y v u Q I rx ry h hs
 obtain ⟨p,xs,i,z,rfl,rfl,hq,he,q⟩:=h
 cases rx
 obtain ⟨t,rfl⟩:=ry
 obtain ⟨its,r,pl,hz⟩:=I.list hq
 obtain ⟨j,h1,h2,h3,h4,h5⟩:=Zu he
 obtain ⟨w,ew,rw'⟩:=r.get h2
 have hl:=r.length
 have hn:=Jx
 have fin:EP X pins σ Q w s:=⟨z,H,I,rw',q⟩
 by_cases h0:0<=i
 ·have hj:i.toNat=j:=by
   rw [pI h0 h5] at h1
   exact bg h1
  exact item_listR pl.isList h0 ∅ (by rw [hj];simpa using ew) fin hs
 ·have hj:(i+(its.toArray.size:Int)).toNat=j:=by
   rw [oB ∅ h4] at h1
   rw [ax,<- hl]
   exact bg h1
  exact lP (x:=w) pl.isList.typeIs slot_list_getitem.lookup
   (wpAny_getItem_list_neg (Q:=λr s'=>r=w/\EP X pins σ Q r s') pl.isList ∅ (by rw [ax] <;> omega) ∅ (by rw [hj];simpa using ew) ⟨rfl,fin⟩) hs
theorem UY:IxR X (W5 X.K):=by
 intro value slice pins s σ H x y v u Q I rx ry h hs
 obtain ⟨p,xs,i,z,rfl,rfl,hq,he,q⟩:=h
 cases rx
 obtain ⟨t,rfl⟩:=ry
 obtain ⟨its,r,pl,hz⟩:=I.tuple hq
 obtain ⟨j,h1,h2,h3,h4,h5⟩:=Zu he
 obtain ⟨w,ew,rw'⟩:=r.get h2
 have hl:=r.length
 have hn:=Jx
 have fin:EP X pins σ Q w s:=⟨z,H,I,rw',q⟩
 exact lP (x:=w) pl.typeIs slot_tuple_getitem.lookup
  (getItem_tuple (j:=j) (Q:=λr s'=>r=w/\EP X pins σ Q r s') pl ∅ ∅ (by rw [ax,<- hl];exact h1) (by simpa using ew) ⟨rfl,fin⟩) hs
theorem Xl (its:List ah) (n j:Nat) (u:ah):aY (·.setIfInBounds j u) { cls:=.type "list",data:=.seq its.toArray n }={ cls:=.type "list",data:=.seq (its.set j u).toArray n }:=by
 simp [aY]
theorem Inv.lst {pins:List (Addr×Obj)}{σ:St}{H:Hp}{s:Shared}{p:Addr}{xs:List V}(I:Inv X pins σ H s) (h:H p=some (.lst xs)) :
  ∃(its:List ah) (n:Nat),jI xs its/\s.heap.get? p=some { cls:=.type "list",data:=.seq its.toArray n }/\xs.length<=sizeLine:=by
 obtain ⟨z,its,n,r,e⟩:=I.hok p _ h
 exact ⟨its,n,r,e,z⟩
theorem Inv.lstUpd {pins:List (Addr×Obj)}{σ:St}{H:Hp}{s:Shared}{p:Addr}{xs ys:List V}{its its':List ah}{n n':Nat}{f:Obj->Obj}(I:Inv X pins σ H s) (h:H p=some (.lst xs))
  (ho:s.heap.get? p=some { cls:=.type "list",data:=.seq its.toArray n }) (hf:f { cls:=.type "list",data:=.seq its.toArray n }={ cls:=.type "list",data:=.seq its'.toArray n' }) (r:jI ys its') (hz:ys.length<=sizeLine) (t:Nat) :
  Inv X pins σ (upd H p (.lst ys)) { s with heap:=s.heap.update p f,toks:=t }:=by
 have e:(s.heap.update p f).get? p=some { cls:=.type "list",data:=.seq its'.toArray n' }:=by
  rw [dz f ho (by rw [hf] <;> rfl),hf]
 refine I.write (x:=p) (e:=p) (by rw [h];trivial) (.inl rfl) (λb u hb q=>(bS _ _ (cE hb)).trans q) ⟨_,e⟩ ?_
 exact ⟨hz,its',n',r,e⟩
noncomputable def Gk:V->V->V->Hp->(Hp->Prop)->Prop:=λo i v H Q=>∃p xs k j,o = .ref p/\i = .int k/\H p=some (.lst xs)/\ixN xs.length k=some j/\Q (upd H p (.lst (xs.set j v)))
theorem ua:Gp X Gk:=by
 intro pins s σ H o i v ov iv u Q I ro ri rv h
 obtain ⟨p,xs,k,j,rfl,rfl,hp,hj,q⟩:=h
 cases ro
 obtain ⟨t,rfl⟩:=ri
 obtain ⟨its,n,r,ho,hz⟩:=I.lst hp
 obtain ⟨h1,h2,h3,h4⟩:=ZI hj
 have hl:=r.length
 have hn:=Jx
 have I':Inv X pins σ (upd H p (.lst (xs.set j v))) { s with heap:=s.heap.update p (aY (·.setIfInBounds j u)) } :=
  I.lstUpd hp ho (Xl its n j u) (r.set rv j) (by rw [ig];exact hz) s.toks
 by_cases h0:0<=k
 ·have hk:k.toNat=j:=by
   rw [pI h0 h4] at h1
   exact bg h1
  exact PySem.W.ki_setAt ho h0 ∅ (by rw [ax,<- hl];exact h4) (by rw [hk];exact ⟨_,I',q⟩)
 ·have hk:(k+(its.toArray.size:Int)).toNat=j:=by
   rw [oB ∅ h3] at h1
   rw [ax,<- hl]
   exact bg h1
  exact PySem.W.ki_setBack ho ∅ (by rw [ax,<- hl];exact h3) ∅ (by rw [hk];exact ⟨_,I',q⟩)
theorem JE (lo hi:Option Int) (n:Nat):(fA lo hi none n).1=((HT.sIx n 0 lo:Nat):Int)/\(fA lo hi none n).2.1=((HT.sIx n n hi:Nat):Int)/\(fA lo hi none n).2.2=1:=by
 refine ⟨?_,?_,rfl⟩
 ·cases lo with
  | none=>simp [fA,HT.sIx]
  | some i =>
   simp only [fA,HT.sIx,oY,show (1:Int) > 0 by decide,if_true]
   by_cases h:i<0
   ·simp only [h,if_true] <;> omega
   ·simp only [h,if_false] <;> omega
 ·cases hi with
  | none=>simp [fA,HT.sIx]
  | some i =>
   simp only [fA,HT.sIx,oY,show (1:Int) > 0 by decide,if_true]
   by_cases h:i<0
   ·simp only [h,if_true] <;> omega
   ·simp only [h,if_false] <;> omega
theorem hE (its:List ah) (lo hi:Option Int):slicePick its.toArray lo hi none=((its.drop (HT.sIx its.length 0 lo)).take (HT.sIx its.length its.length hi-HT.sIx its.length 0 lo)).toArray:=by
 obtain ⟨h1,h2,h3⟩:=JE lo hi its.toArray.size
 unfold slicePick
 rw [h1,h2,h3]
 simp only [sliceRange_one,pick_run,ax] <;> rfl
noncomputable def rSlL (K:ai):V->Option Int->Option Int->Hp->VK->Prop:=λx lo hi H Q=>∃a xs,x = .ref a/\SqL K H a xs/\∀p,H p=none->Q (.ref p) (upd H p (.lst (XS xs lo hi)))
theorem sl_list:SlR X (rSlL X.K):=by
 intro pins s σ H x v vl vu lo hi sl Q I rx hs pl pu h
 obtain ⟨a,xs,rfl,hx,q⟩:=h
 cases rx
 obtain ⟨its,r,ht,hz⟩:=I.list hx
 have hlen:=r.length
 refine ⟨"list",_,slot_list_getitem.lookup,ht.isList.typeIs,?_⟩
 refine lg ht.isList hs pl pu .none (by simp) ?_ (by rw [ax] <;> omega)
 rw [hE,<- hlen]
 refine ⟨.ref s.heap.objs.size,_,I.laid (t':=s.toks) (o:=.lst (XS xs lo hi)) (λb ob q=>ak _ q) (av _) ?_,rfl,q _ (I.hok.fresh (av _))⟩
 exact ⟨aF (uY xs lo hi) hz,_,0,(r.drop (HT.sIx xs.length 0 lo)).take (HT.sIx xs.length xs.length hi-HT.sIx xs.length 0 lo),aA _ rfl⟩
noncomputable def uc:V->Bool
 | .non=>true
 | .bl _=>true
 | .int _=>true
 | .str _=>true
 | _=>false
noncomputable def eqV:V->V->Bool
 | .non,.non=>true
 | .bl a,.bl b=>a == b
 | .bl a,.int b=>(if a then 1 else 0) == b
 | .int a,.bl b=>a == (if b then 1 else 0)
 | .int a,.int b=>a == b
 | .str a,.str b=>a == b
 | _,_=>false
theorem UM {A:b9}{s:Shared}{y x:V}{u v:ah}(ry:jK y u) (rx:jK x v) (fy:uc y=true) (fx:uc x=true):SeqAt.EqAt A s u v (eqV y x):=by
 cases y with
 | non =>
  cases ry
  cases x with
  | non=>cases rx;exact SeqAt.EqAt.same _
  | bl b=>cases rx;exact SeqAt.EqAt.none_bool b
  | int b=>obtain ⟨t,rfl⟩:=rx;exact SeqAt.EqAt.none_int b t
  | str b=>obtain ⟨t,rfl⟩:=rx;exact SeqAt.EqAt.none_str b t
  | _=>exact absurd (show false=true from fx) ar
 | bl a =>
  cases ry
  cases x with
  | non=>cases rx;exact SeqAt.EqAt.bool_none a
  | bl b=>cases rx;exact SeqAt.EqAt.bool_bool a b
  | int b=>obtain ⟨t,rfl⟩:=rx;exact SeqAt.EqAt.bool_int a b t
  | str b=>obtain ⟨t,rfl⟩:=rx;exact SeqAt.EqAt.bool_str a b t
  | _=>exact absurd (show false=true from fx) ar
 | int a =>
  obtain ⟨t',rfl⟩:=ry
  cases x with
  | non=>cases rx;exact SeqAt.EqAt.int_none a t'
  | bl b=>cases rx;exact SeqAt.EqAt.int_bool a t' b
  | int b=>obtain ⟨t,rfl⟩:=rx;exact SeqAt.EqAt.int_int a t' b t
  | str b=>obtain ⟨t,rfl⟩:=rx;exact nE a t' b t
  | _=>exact absurd (show false=true from fx) ar
 | str a =>
  obtain ⟨t',rfl⟩:=ry
  cases x with
  | non=>cases rx;exact SeqAt.EqAt.str_none a t'
  | bl b=>cases rx;exact SeqAt.EqAt.str_bool a t' b
  | int b=>obtain ⟨t,rfl⟩:=rx;exact nI a t' b t
  | str b=>obtain ⟨t,rfl⟩:=rx;exact SeqAt.EqAt.str_str a t' b t
  | _=>exact absurd (show false=true from fx) ar
 | _=>exact absurd (show false=true from fy) ar
noncomputable def eqU (x:V) (u:ah):Bool:=match u with
 | .none=>eqV .non x
 | .bool b=>eqV (.bl b) x
 | .int i _=>eqV (.int i) x
 | .str z _=>eqV (.str z) x
 | _=>false
theorem YY {x y:V}{u:ah}(r:jK y u) (f:uc y=true):eqU x u=eqV y x:=by
 cases y with
 | non=>cases r;rfl
 | bl b=>cases r;rfl
 | int i=>obtain ⟨t,rfl⟩:=r;rfl
 | str z=>obtain ⟨t,rfl⟩:=r;rfl
 | _=>exact absurd (show false=true from f) ar
theorem uf {x:V}:∀{xs:List V}{us:List ah},jI xs us->xs.all uc=true->us.any (eqU x)=xs.any λy=>eqV y x
 | _,_,.nil,_=>rfl
 | y::xs,u::us,.cons r t,f=>by
  rw [nk,ba] at f
  rw [fe,fe,YY r f.1,uf t f.2]
theorem yH {A:b9}{s:Shared}{x:V}{v:ah}(rx:jK x v) (fx:uc x=true):∀{xs:List V}{us:List ah},jI xs us->xs.all uc=true->∀u∈us,SeqAt.EqAt A s u v (eqU x u)
 | _,_,.nil,_=>λu hu=>by cases hu
 | y::xs,u::us,.cons r t,f=>λu' hu=>by
  rw [nk,ba] at f
  rcases List.mem_cons.mp hu with rfl | hu
  ·rw [YY r f.1];exact UM r rx f.1 fx
  ·exact yH rx fx t f.2 u' hu
noncomputable def inV (x:V) (xs:List V):Bool:=xs.any λy=>eqV y x
noncomputable def rIn (K:ai) (neg:Bool):R2:=λx y H Q=>∃p xs,y = .ref p/\(SqL K H p xs\/SqT K H p xs)/\uc x=true/\xs.all uc=true/\Q (.bl (if neg then !inV x xs else inV x xs)) H
theorem Yu:OpR X (cu .In) (rIn X.K false):=by
 intro pins s σ H x y v u Q I rx ry h
 obtain ⟨p,xs,rfl,hq,fx,fs,q⟩:=h
 cases ry
 rcases hq with hq | hq
 ·obtain ⟨its,r,pl,hz⟩:=I.list hq
  refine SeqAt.in_listAt (eqU x) pl.isList (λw hw=>yH rx fx r fs w (by simpa using hw)) ⟨.bl _,H,I,rfl,?_⟩
  rw [show its.toArray.any (eqU x)=its.any (eqU x) by simp,uf r fs]
  exact q
 ·obtain ⟨its,r,pl,hz⟩:=I.tuple hq
  refine SeqAt.in_tupleAt (eqU x) pl (λw hw=>yH rx fx r fs w (by simpa using hw)) ⟨.bl _,H,I,rfl,?_⟩
  rw [show its.toArray.any (eqU x)=its.any (eqU x) by simp,uf r fs]
  exact q
theorem Jn:OpR X (cu .NotIn) (rIn X.K true):=by
 intro pins s σ H x y v u Q I rx ry h
 obtain ⟨p,xs,rfl,hq,fx,fs,q⟩:=h
 cases ry
 rcases hq with hq | hq
 ·obtain ⟨its,r,pl,hz⟩:=I.list hq
  refine SeqAt.notIn_listAt (eqU x) pl.isList (λw hw=>yH rx fx r fs w (by simpa using hw)) ⟨.bl _,H,I,rfl,?_⟩
  rw [show its.toArray.any (eqU x)=its.any (eqU x) by simp,uf r fs]
  exact q
 ·obtain ⟨its,r,pl,hz⟩:=I.tuple hq
  refine SeqAt.notIn_tupleAt (eqU x) pl (λw hw=>yH rx fx r fs w (by simpa using hw)) ⟨.bl _,H,I,rfl,?_⟩
  rw [show its.toArray.any (eqU x)=its.any (eqU x) by simp,uf r fs]
  exact q
theorem Jp:qP X (.builtin "len") (λxs H Q=>∃p ys,xs=[.ref p]/\(SqL X.K H p ys\/SqT X.K H p ys)/\Q (.int ys.length) H):=by
 intro pins s σ H xs us Q I r h
 obtain ⟨p,ys,rfl,hq,q⟩:=h
 obtain ⟨u,rfl,rx⟩:=y7 r
 cases rx
 have hn:=Jx
 rcases hq with hq | hq
 ·obtain ⟨its,r',pl,hz⟩:=I.list hq
  have hlen:=r'.length
  exact Calls.call_len_list pl.isList (by simp only [ax] <;> omega) ⟨.int ys.length,H,I.tok _,⟨s.toks+1,by rw [ax,hlen]⟩,q⟩
 ·obtain ⟨its,r',pl,hz⟩:=I.tuple hq
  have hlen:=r'.length
  exact len_tuple pl (by simp only [ax] <;> omega) ⟨.int ys.length,H,I.tok _,⟨s.toks+1,by rw [ax,hlen]⟩,q⟩
theorem JN:qP X (.type "list") (λxs H Q=>∃p ys,xs=[.ref p]/\(SqL X.K H p ys\/SqT X.K H p ys)/\∀l,H l=none->Q (.ref l) (upd H l (.lst ys))):=by
 intro pins s σ H xs us Q I r h
 obtain ⟨p,ys,rfl,hq,q⟩:=h
 obtain ⟨u,rfl,rx⟩:=y7 r
 cases rx
 have fin:∀(its:List ah),jI ys its->ys.length<=sizeLine->∀(h':Heap) (c':Nat),(∀b o',s.heap.get? b=some o'->h'.get? b=some o') ->
   h'.get? s.heap.objs.size=some { cls:=.type "list",dict:=none,data:=.seq its.toArray c',slots:=#[] }->EP X pins σ Q (.ref s.heap.objs.size) { s with heap:=h' }:=λits r' hz h' c' kp e =>
  ⟨.ref s.heap.objs.size,_,I.laid (t':=s.toks) kp (av _) (show qw X.prog X.w _ h' _ (.lst ys) from ⟨hz,its,c',r',e⟩),rfl,q _ (I.hok.fresh (av _))⟩
 rcases hq with hq | hq
 ·obtain ⟨its,r',pl,hz⟩:=I.list hq
  have hlen:=r'.length
  obtain ⟨o,ho,hc,n,hd⟩:=pl.isList
  exact se p (.inl rfl) ho hc hd (λh' c' kp e=>fin its r' hz h' c' kp e) (by simp only [ax] <;> omega)
 ·obtain ⟨its,r',pl,hz⟩:=I.tuple hq
  have hlen:=r'.length
  obtain ⟨o,ho,hc,n,hd⟩:=pl
  exact se p (.inr rfl) ho hc hd (λh' c' kp e=>fin its r' hz h' c' kp e) (by simp only [ax] <;> omega)
theorem hU:qP X (.type "tuple") (λxs H Q=>∃p ys,xs=[.ref p]/\((SqL X.K H p ys/\∀l,H l=none->Q (.ref l) (upd H l (.tup ys)))\/(SqT X.K H p ys/\Q (.ref p) H))):=by
 intro pins s σ H xs us Q I r h
 obtain ⟨p,ys,rfl,h⟩:=h
 obtain ⟨u,rfl,rx⟩:=y7 r
 cases rx
 rcases h with ⟨hq,q⟩ | ⟨hq,q⟩
 ·obtain ⟨its,r',pl,hz⟩:=I.list hq
  have hlen:=r'.length
  refine call_tuple_list pl.isList (λh' kp=>?_) (by simp only [ax] <;> omega)
  have I1:Inv X pins σ H { s with heap:=h' }:=I.kept (t':=s.toks) kp
  have I2:Inv X pins σ (upd H h'.objs.size (.tup ys)) { s with heap:=h'.push { cls:=.type "tuple",data:=.seq its.toArray } } :=
   I1.laid (t':=s.toks) (λb o e=>ak _ e) (av _) (show qw X.prog X.w _ _ _ (.tup ys) from ⟨hz,its,r',oX _ _⟩)
  exact ⟨.ref h'.objs.size,_,I2,rfl,q _ (I1.hok.fresh (av _))⟩
 ·obtain ⟨its,r',pl,hz⟩:=I.tuple hq
  exact call_tuple_same pl ⟨.ref p,H,I,rfl,q⟩
noncomputable def tyV (K:ai) (T:String) (x:V) (H:Hp):Prop:=match x with
 | .str _=>T = "str"
 | .int _=>T = "int"
 | .ref p=>(T = "list" /\ ∃xs,SqL K H p xs)\/(T = "tuple" /\ ∃o,K.lookup p=some o/\o.cls = .type "tuple" /\ o.dict=none) \/
   (T = "dict" /\ ((∃kvs,H p=some (.dK kvs))\/∃kvs,H p=some (.dT kvs)))\/(T = "set" /\ ∃S n,H p=some (.set S n))
 | _=>False
theorem UW {pins:List (Addr×Obj)}{σ:St}{H:Hp}{s:Shared}{T:String}{x:V}{v:ah}(I:Inv X pins σ H s) (r:jK x v) (ty:tyV X.K T x H) :
  s.TypeIs v T/\∀a,v = .ref a->∃ob,s.heap.get? a=some ob/\ob.dict=none:=by
 cases x with
 | str z =>
  obtain ⟨t,rfl⟩:=r
  cases (show T = "str" from ty)
  exact ⟨typeIs_str s z t,λ_ e=>nomatch e⟩
 | int i =>
  obtain ⟨t,rfl⟩:=r
  cases (show T = "int" from ty)
  exact ⟨typeIs_int s i t,λ_ e=>nomatch e⟩
 | ref p =>
  cases r
  rcases ty with ⟨rfl,xs,hq⟩ | ⟨rfl,o,hk,hc,hd⟩ | ⟨rfl,hk⟩ | ⟨rfl,S,n,hk⟩
  ·obtain ⟨its,_,pl,_⟩:=I.list hq
   refine ⟨pl.isList.typeIs,λa e=>?_⟩
   cases e
   obtain ⟨o,n,e,c,hd,_⟩:=pl
   exact ⟨o,e,hd⟩
  ·refine ⟨⟨o,I.kIn p o hk,hc⟩,λa e=>?_⟩
   cases e
   exact ⟨o,I.kIn _ o hk,hd⟩
  ·have z:∃o,s.heap.get? p=some o/\o.ExactDict:=by
    rcases hk with ⟨kvs,hk⟩ | ⟨kvs,hk⟩
    ·obtain ⟨_,_,_,_,o,_,_,e,ex,_⟩:=I.hok p _ hk
     exact ⟨o,e,ex⟩
    ·obtain ⟨_,_,_,_,o,_,_,e,ex,_⟩:=I.hok p _ hk
     exact ⟨o,e,ex⟩
   obtain ⟨o,e,ex⟩:=z
   refine ⟨⟨o,e,ex.1⟩,λa e2=>?_⟩
   cases e2
   exact ⟨o,e,ex.2.1⟩
  ·obtain ⟨o,_,_,_,e,ex,_⟩:=I.hok p _ hk
   refine ⟨⟨o,e,ex.1⟩,λa e2=>?_⟩
   cases e2
   exact ⟨o,e,ex.2.1⟩
 | _=>exact bp ty
noncomputable def tBM (K:ai) (T:String) (r:V->List V->Hp->VK->Prop) (to:TE) (t:TA):TE:=λσ H Q=>to σ H λx H1=>tyV K T x H1/\t σ H1 λxs H2=>r x xs H2 Q
variable {o e:Expr}{es:List Expr}{to:TE}{t:TA}{name:Str}{apos cpos:Pos}{T id:String}{r:V->List V->Hp->VK->Prop}
theorem Gw (pa:PlainAttrs T) (slot:Slot T name id) (hty:rz (.builtin id)=pure (.type "method_descriptor")) (hm:MtR X id r) (ho:PE X o to) (ha:PA X (e::es) t)
  (hbase:f7 o name X.env (eval o X.env)=eval o X.env:=by rfl)
  (hfew:((cT cpos (aN (e::es) X.env)).all (λx=>!x.1) && (mr cpos (i7 [] X.env)).all (λx=>x.1.isSome)
   && decide ((e::es).length+([]:List lM).length+(if ([]:List lM).isEmpty then 0 else 1)<30))=true:=by rfl)
  (hline:(apos.endLine == cpos.line)=true:=by rfl) (hs:aN (e::es) X.env=(false,eval e X.env)::aN es X.env:=by rfl) (hplain:(cT cpos (aN es X.env)).any (·.1)=false:=by rfl) :
  PE X (.Call (.Attribute o name apos) (e::es) [] cpos) (tBM X.K T r to t):=by
 intro pins s σ H Q I h
 refine wpAny_Call_method_late hbase hfew hline rfl (thn (ho pins s σ H _ I h) λv s1 ⟨x,H1,I1,r1,ty,q1⟩=>?_)
 obtain ⟨h1,h2⟩:=UW I1 r1 ty
 refine ⟨T,id,pa,slot,hty,h1,h2,?_⟩
 have hA:=ha cpos pins s1 σ H1 _ I1 q1
 rw [hs] at hA ⊢
 refine lQ (by show (false || (cT cpos (aN es X.env)).any (·.1))=false;rw [hplain] <;> rfl) (i9 ?_)
 exact thn hA λus s2 ⟨vs,H2,I2,r2,q2⟩=>hm pins s2 σ H2 x vs v us Q I2 r1 r2 q2
end
end L2
namespace L2
noncomputable def MtM (X:Cx) (id:String) (r:V->List V->Hp->VK->Prop):Prop :=
 ∀(pins:List (Addr×Obj)) (s:Shared) (σ:St) (H:Hp) (x:V) (xs:List V) (v:ah) (us:List ah) (Q:VK),Inv X pins σ H s->jK x v->jI xs us->r x xs H Q ->
  ay (aD X.prog X.w) X.A (call (.builtin id) (v::us)) (EP X pins σ Q) X.xe s
theorem jI.one:∀{x:V}{us:List ah},jI [x] us->∃u,us=[u]/\jK x u
 | _,_,.cons r .nil=>⟨_,rfl,r⟩
theorem jI.dropLast {xs:List V}{us:List ah}(h:jI xs us):jI xs.dropLast us.dropLast:=by
 induction h with
 | nil=>exact .nil
 | cons r t ih =>
  cases t with
  | nil=>exact .nil
  | cons q t'=>exact .cons r ih
theorem jI.reverse {xs:List V}{us:List ah}(h:jI xs us):jI xs.reverse us.reverse:=by
 induction h with
 | nil=>exact .nil
 | cons r t ih=>rw [iX,iX];exact jI.append ih (.cons r .nil)
section
variable {X:Cx}{pins:List (Addr×Obj)}{σ:St}{H:Hp}{s:Shared}{l b:Addr}{xs ys zs:List V}
theorem Inv.lset {its its':List ah}{n:Nat}{f:Array ah->Array ah}{t':Nat}(I:Inv X pins σ H s) (hH:H l=some (.lst xs))
  (e:s.heap.get? l=some { cls:=.type "list",data:=.seq its.toArray n }) (hf:f its.toArray=its'.toArray) (hv:jI ys its') (hz:ys.length<=sizeLine) :
  Inv X pins σ (upd H l (.lst ys)) { s with heap:=s.heap.update l (aY f),toks:=t' }:=by
 have q:=PySem.IsL.update e f
 rw [hf] at q
 refine I.write (x:=l) (e:=l) (by rw [hH];exact trivial) (.inl rfl) (λb' u hb hu=>(bS s.heap (aY f) (cE hb)).trans hu) ⟨_,q⟩ ?_
 exact ⟨hz,its',_,hv,q⟩
theorem Inv.lnew {its:List ah}{t':Nat}(I:Inv X pins σ H s) (hv:jI ys its) (hz:ys.length<=sizeLine) :
  Inv X pins σ (upd H s.heap.objs.size (.lst ys)) { s with heap:=s.heap.push { cls:=.type "list",data:=.seq its.toArray },toks:=t' } :=
 I.laid (λ_ _ q=>ak _ q) (av _) ⟨hz,its,0,hv,aA _ rfl⟩
theorem Inv.fresh (I:Inv X pins σ H s):H s.heap.objs.size=none:=I.hok.fresh (av _)
theorem Inv.lstM (I:Inv X pins σ H s) (hH:H l=some (.lst xs)):xs.length<=sizeLine/\∃(its:List ah) (n:Nat),jI xs its/\xs.length=its.length/\s.heap.get? l=some { cls:=.type "list",data:=.seq its.toArray n }:=by
 obtain ⟨z,its,n,r,e⟩:=I.hok l _ hH
 exact ⟨z,its,n,r,r.length,e⟩
theorem YM {n:Nat}(h:n<=sizeLine):ff n=false:=by
 unfold ff
 exact decide_eq_false ∅
end
section
variable {X:Cx}
noncomputable def VC:V->List V->Hp->VK->Prop:=λx vs H Q=>∃l xs y,x = .ref l/\vs=[y]/\H l=some (.lst xs)/\xs.length<sizeLine/\Q .non (upd H l (.lst (xs++[y])))
theorem qM:MtM X "list.append" VC:=by
 intro pins s σ H x vs v us Q I rx rv h
 obtain ⟨l,xs,y,rfl,rfl,hH,hz,q⟩:=h
 cases rx
 obtain ⟨u,rfl,ru⟩:=rv.one
 obtain ⟨z,its,n,r,hl,e⟩:=I.lstM hH
 refine rA F.slot_list_append ⟨_,e,rfl⟩ F.entry_list_append (F.args_list_append_2 _ _) (PySem.list_append l its.toArray n u (by rw [ax];omega)) ⟨e,?_⟩
 refine ⟨.non,_,I.lset (its':=its++[u]) hH e (by simp) (r.append (.cons ru .nil)) ?_,rfl,q⟩
 rw [az,bf]
 omega
noncomputable def U5:V->List V->Hp->VK->Prop:=λx vs H Q=>∃l b xs zs,x = .ref l/\vs=[.ref b]/\H l=some (.lst xs)/\H b=some (.lst zs)/\xs.length+zs.length<=sizeLine/\Q .non (upd H l (.lst (xs++zs)))
theorem WC:MtM X "list.extend" U5:=by
 intro pins s σ H x vs v us Q I rx rv h
 obtain ⟨l,b,xs,zs,rfl,rfl,hH,hB,hz,q⟩:=h
 cases rx
 obtain ⟨u,rfl,ru⟩:=rv.one
 cases ru
 obtain ⟨z,its,n,r,hl,e⟩:=I.lstM hH
 obtain ⟨z2,its2,n2,r2,hl2,e2⟩:=I.lstM hB
 have hsz:its.toArray.size+its2.toArray.size<=sizeLine:=by rw [ax,ax];omega
 have hlong:¬(!its.toArray.isEmpty && ff (its.toArray.size+its2.toArray.size))=true:=by
  rw [YM hsz,rC]
  exact ar
 refine rA F.slot_list_extend ⟨_,e,rfl⟩ F.entry_list_extend (F.args_list_extend_2 _ _)
  (AutoSeq1.list_extend_list_list_0 l its.toArray n b its2.toArray n2 hlong (by rw [ax];omega) ∅) ⟨e,e2,?_⟩
 refine ⟨.non,_,I.lset (its':=its++its2) hH e (by simp) (r.append r2) ?_,rfl,q⟩
 rw [az]
 omega
noncomputable def rCat:R2:=λx y H Q=>∃l b xs zs,x = .ref l/\y = .ref b/\H l=some (.lst xs)/\H b=some (.lst zs)/\xs.length+zs.length<=sizeLine/\∀p,H p=none->Q (.ref p) (upd H p (.lst (xs++zs)))
theorem UJ:OpR X (ee .Add) rCat:=by
 intro pins s σ H x y v u Q I rx ry h
 obtain ⟨l,b,xs,zs,rfl,rfl,hH,hB,hz,q⟩:=h
 cases rx
 cases ry
 obtain ⟨z,its,n,r,hl,e⟩:=I.lstM hH
 obtain ⟨z2,its2,n2,r2,hl2,e2⟩:=I.lstM hB
 refine PySem.P.add_list e e2 ?_ (by rw [ax,ax];omega)
 have ea:its.toArray++its2.toArray=(its++its2).toArray:=by simp
 rw [ea]
 exact ⟨.ref _,_,I.lnew (t':=s.toks) (r.append r2) (by rw [az];omega),rfl,q _ I.fresh⟩
end
section
variable {prog:Program}{w:aU}{A:b9}{E:ah->Shared->Prop}{s:Shared}
set_option maxRecDepth 100000 in
end
section
variable {X:Cx}
end
end L2
namespace Att
open PySem PySem.W PySem.Calls PyProof.Rows
theorem wm {P:pX}{h:Heap}:∀(ns:List Int) (vs:List ah),WellAll P h vs (ns.map WData.int)->df vs ns:=by
 intro ns
 induction ns with
 | nil =>
  intro vs w
  rw [eU] at w
  cases w
  exact .nil
 | cons n ns ih =>
  intro vs w
  rw [b8] at w
  cases w with
  | cons a b =>
   cases a
   exact .cons _ _ (ih _ b)
theorem Y4 {l:OpenLaw}{n:Nat}(hn:l.most=some n) {P:pX}{h:Heap}{args:List WData}{vals:List ah}
  (hpre:l.row.toRowW.claim.pre args=true) (hwl:WellAll P h vals args) :
  ∃a vs ns,vals=[b7 a]/\args=[WData.list (ns.map WData.int)]/\h.get? a=some { cls:=.type "list",data:=.seq vs.toArray }/\df vs ns/\ns.length<=n:=by
 have hsh:WShape.hasAll [] args [.list .int]=true:=(pre_splitW hpre).1
 have hc:l.pre.holds [] { args:=args }=true:=(pre_splitW hpre).2
 obtain ⟨d,r,rfl,h1,h2⟩:=hasAllW_cons hsh
 obtain rfl:=hasAllW_nil h2
 obtain ⟨xs,rfl,h3⟩:=hasW_list h1
 obtain ⟨ns,rfl⟩:=items_int h3
 have hlen:ns.length<=n:=by
  unfold OpenLaw.pre at hc
  have h4:(WTm.not (.lt (.lit (.int (n:Int))) (.len (.arg 0)))).holds [] { args:=[.list (ns.map .int)] }=true:=by
   have h4:=(holds_andW hc).1
   rw [hn] at h4
   exact h4
  have h5:=condW_of h4 (w_not (w_lt w_lit (w_len_list (w_arg rfl))))
  rw [af] at h5
  refine Nat.le_of_not_lt λq=>?_
  have q':(n:Int)<((ns.length:Nat):Int):=∅
  first
   | (rw [decide_eq_true q'] at h5;exact absurd h5 ⋯)
   | (simp at h5;omega)
 cases hwl with
 | cons w1 w2 =>
  cases w2
  cases w1 with
  | list ho hall=>exact ⟨_,_,ns,rfl,rfl,ho,wm ns _ hall,hlen⟩
theorem ZV (l:OpenLaw) (args:List WData):l.row.toRowW.claim.post args (.bool true) args=true :=
 postW_of (r:=l.row.toRowW) (X:=(true == true))
  (show WShape.has [] (.bool true) .bool=true by first | rfl | decide | simp [WShape.has,WShape.arms,WShape.armsAll])
  (show (WTm.eq .res (.lit (.bool true))).value [] { args:=args,res:=some (.bool true),after:=args }=some (.bool (true == true)) from w_eq_bool (w_res rfl) w_lit) rfl
theorem attach_call {l:OpenLaw}{n:Nat}{q:Program}{loose:List Str}{XP:(Str->Option ah)->Heap->Prop}{YP:aU->Heap->Prop}{d:DefRec}
  (hn:l.most=some n) (hdf:d.params.defaults=[])
  (call:∀(w:aU) (s₀ s₁:Shared) (mg mb:Str->Option ah) (fa:Addr) (o:Obj) (pm cd doc:ah) (a:Addr) (vs:List ah) (ns:List Int),
   Ground q loose [] XP w s₀ mg mb s₁.heap->YP w s₁.heap ->
   s₁.heap.get? fa=some o->o.data = .func (docDef d.name d.params d.body d.scope pm cd doc)->s₁.heap.CodeRec cd d.name->mg d.name=some (.ref fa) ->
   s₁.heap.get? a=some { cls:=.type "list",data:=.seq vs.toArray }->df vs ns->ns.length<=n->s₁.gens = #[] ->
   cX (aD l.prog w) mT (.call (.ref fa) ⟨[.ref a],[]⟩) (λr s'=>r = .ok (.ret (.bool true))/\OldK s₁.heap s'.heap/\s'.os=s₁.os/\fY s'.gens) s₁) :
  WalkO q loose XP YP l.row.toRowW d [] (λf vs=>PySem.call f vs):=by
 intro w s₀ s₁ mg mb G Y fa o pm cd doc dV kV ho hd hcd hD hmg hg args vals as hpre hlay hrd hwl hlo
 obtain rfl:dV = .none:=Dflts.none hD hdf
 obtain rfl:kV = .none:=Dflts.noKw hD
 obtain ⟨a,vs,ns,rfl,rfl,hobj,hints,hlen⟩:=Y4 hn hpre hwl
 refine enter_call (de (call w s₀ s₁ mg mb fa o pm cd doc a vs ns G Y ho (fd_plain hd) hcd hmg hobj hints hlen hg) λr s' hq=>?_)
 obtain ⟨rfl,h2,h3,h4⟩:=hq
 exact ⟨.inl ⟨.bool true,.bool true,[],rfl,λ_=>rfl,.bool true,ZV l _,λ_=>⟨fL,λ_ hm=>(nomatch hm)⟩⟩,h2,h3,h4⟩
section
variable {prog:Program}{w:aU}{A:b9}{E:ah->Shared->Prop}{s:Shared}{K:Frag}
noncomputable def ledger (h:Heap) (L d:Addr):List (Addr×Obj):=(aV h.objs.size).filterMap λa=>if a=L\/a=d then none else (h.get? a).map λo=>(a,o)
end
end Att
namespace L2
theorem uP:∀{vs:List ah}{ns:List Int},df vs ns->jI (ns.map V.int) vs
 | _,_,.nil=>.nil
 | _,_,.cons n t h=>.cons ⟨t,rfl⟩ (uP h)
end L2
namespace L2
end L2
namespace L2
noncomputable def zL (s:Stmt) (j:Nat):Stmt:=match s with
 | .ClassDef _ _ _ body _ _ _ _ _ _ _=>body.getD j (.Pass ⟨0,0,0,0⟩)
 | _=>.Pass ⟨0,0,0,0⟩
noncomputable def jY (s:Stmt):Arguments:=match s with
 | .FunctionDef _ a _ _ _ _ _ _ _ _=>a
 | _=>{ posonlyargs:=[],args:=[],vararg:=none,kwonlyargs:=[],kw_defaults:=[],kwarg:=none,defaults:=[] }
noncomputable def jO (s:Stmt):List Stmt:=match s with
 | .FunctionDef _ _ b _ _ _ _ _ _ _=>b
 | _=>[]
noncomputable def j9 (s:Stmt):Scope:=match s with
 | .FunctionDef _ _ _ _ _ _ sc _ _ _=>sc
 | _=>{ kind:=.function,names:=[],isGenerator:=false,isCoroutine:=false }
noncomputable abbrev CX0:CXT:=λ_ _ _ _ _ _=>False
noncomputable abbrev E0:XK:=λ_ _ _=>False
theorem UB {X:Cx}:JA CX0 X E0:=λ_ _ _ _ _ _ _ h=>h.elim
structure Fun (K:ai) (x qual:Str) (st:Stmt) (f:Addr) (fd:FuncData):Prop where
 ex:∃(oc:ah) (od:Option Addr) (kV doc pm:ah) (an:Option Addr) (cdv ct:ah) (osl:Array (Option ah)),
  fd=bD x qual (jY st) (jO st) (j9 st) .none kV doc pm an cdv ct/\K.lookup f=some ⟨oc,od,.func fd,osl⟩/\cz K cdv qual=true
 kp:bK K (.ref f)=true
section
variable {P:Program}{w:aU}{K:ai}{mg:Str->Option ah}{base:Heap}
theorem Fun.ok {x qual:Str}{st:Stmt}{f:Addr}{fd:FuncData}{N ps:List Str}{k:Nat}{sp:Sp}(F:Fun K x qual st f fd) (S:FnScope N ps (j9 st)) (len:∀vs H Q E,sp vs H Q E->vs.length=ps.length)
  (hbody:∀(cdv:ah) (A:b9) (outer:List Env) (s:Shared) (H:Hp) (vs:List V) (Q:VK) (E:XK),Room k (A.deeper (ie qual (j9 st) s.heap.objs.size f cdv))->sp vs H Q E ->
   ∃t,PSs (vp CX0 P w K mg base N qual (j9 st) f cdv A outer s H E).nox (jO st) t/\t { nx:=λ_ H'=>Q .non H',rt:=Q } (start N vs) H):FnOk P w K mg base CX0 (k+1) f fd ps sp:=by
 obtain ⟨oc,od,kV,doc,pm,an,cdv,ct,osl,rfl,lk,hcd⟩:=F.ex
 refine Yz lk hcd S len λA outer s H vs Q E hr hsp=>?_
 obtain ⟨t,h,q⟩:=hbody cdv A outer s H vs Q E hr hsp
 exact ⟨t,h.nox,q⟩
theorem Fun.binds {x qual:Str}{st:Stmt}{f:Addr}{fd:FuncData}{ps:List Str}(F:Fun K x qual st f fd)
  (h:∀(kV doc pm:ah) (an:Option Addr) (cdv ct:ah) (us:List ah),us.length=ps.length->cC (bD x qual (jY st) (jO st) (j9 st) .none kV doc pm an cdv ct) ⟨us,[]⟩=pure (ps.zip us)):y9 K fd ps []:=by
 obtain ⟨oc,od,kV,doc,pm,an,cdv,ct,osl,rfl,lk,hcd⟩:=F.ex
 exact .all (h kV doc pm an cdv ct)
theorem vQ {x qual:Str}{st:Stmt}{f:Addr}{oc:ah}{od an:Option Addr}{osl:Array (Option ah)}{kV doc pm cdv ct:ah}(l:K.lookup f=some ⟨oc,od,.func (bD x qual (jY st) (jO st) (j9 st) .none kV doc pm an cdv ct),osl⟩)
  (c:cz K cdv qual=true) (k:bK K (.ref f)=true):Fun K x qual st f (bD x qual (jY st) (jO st) (j9 st) .none kV doc pm an cdv ct):=⟨⟨oc,od,kV,doc,pm,an,cdv,ct,osl,rfl,l,c⟩,k⟩
end
theorem jJ {A:b9}{k:Nat}(hr:Room k A):A.units+1<cLine:=bI (Nat.add_le_add_left (by decide:1<=64) _) hr.units
theorem jh {n:Nat}(h:n<=1000):n<sizeLine:=bI h ⋯
section
variable {X:Cx}
theorem pv (i:Nat) {x:Str}{pos:Pos}(hN:X.N[i]? = some x:=by rfl) (hv:Vis X.env.scope x:=by first | exact bb rfl | exact lR (bb rfl) | exact lR (lR rfl)) (hd:(x == ("__debug__" : Str))=false:=by decide)
  (hcd:(x == ("__classdict__" : Str))=false:=by decide):PE X (.Name x pos) (y4 i):=Wl hN hv hd hcd
end
theorem wU {A B:Prop}(h:B):if false=true then A else B:=by
 rw [if_neg ar]
 exact h
theorem zF {A B:Prop}(h:A):if true=true then A else B:=by
 rw [if_pos rfl]
 exact h
noncomputable def jq (H H':Hp):Prop:=∀b o,H b=some o->H' b=some o
theorem jq.refl (H:Hp):jq H H:=λ_ _ h=>h
theorem jq.trans {H H1 H2:Hp}(a:jq H H1) (b:jq H1 H2):jq H H2:=λc o h=>b c o (a c o h)
theorem jq.free {H H':Hp}(e:jq H H') {l:Addr}(h:H' l=Option.none):H l=Option.none:=by
 cases q:H l with
 | none=>rfl
 | some o =>
  rw [e l o q] at h
  cases h
end L2
section
namespace L2
theorem Xy (env:Env) (f:Str×fJ->List (Str×Addr)->Sem (ForInStep (List (Str×Addr))))
  (hf:∀n k r,f (n,k) r=if (k == bc)=true then (sy env n >>= λa=>pure (bU ((n,a)::r))) else pure (bU r)) :
  ∀(names:List (Str×fJ)) (acc:List (Str×Addr)),(∀x∈names,x.2 = .free->∃c,env.cells.lookup x.1=some c) ->
  ∃cl,sM names acc f=pure cl/\∀x,cl.lookup x=if (x,bc)∈names then env.cells.lookup x else acc.lookup x:=by
 intro names
 induction names with
 | nil=>intro acc _;exact ⟨acc,rfl,λx=>by rw [if_neg (by simp)]⟩
 | cons y r ih =>
  intro acc h
  obtain ⟨n,k⟩:=y
  have hr:∀x∈r,x.2 = .free->∃c,env.cells.lookup x.1=some c:=λx hx=>h x (aK _ hx)
  by_cases hk:k = .free
  ·subst hk
   obtain ⟨c,hc⟩:=h (n,.free) bh rfl
   obtain ⟨cl,e,p⟩:=ih ((n,c)::acc) hr
   refine ⟨cl,?_,λx=>?_⟩
   ·rw [ij,hf,if_pos (by rfl)]
    have e1:sy env n=pure c:=by unfold sy;rw [hc]
    rw [e1]
    exact e
   ·rw [p x]
    by_cases hx:x=n
    ·subst hx
     rw [if_pos (bh),cD,beq_self_eq_true]
     by_cases hm:(x,bc)∈r
     ·rw [if_pos hm]
     ·rw [if_neg hm];exact hc.symm
    ·have hb:(x == n)=false:=beq_eq_false_iff_ne.mpr hx
     rw [cD,hb]
     by_cases hm:(x,bc)∈r
     ·rw [if_pos hm,if_pos (aK _ hm)]
     ·rw [if_neg hm,if_neg (by
       intro z
       rcases List.mem_cons.mp z with z | z
       ·exact hx (congrArg rE z)
       ·exact hm z)]
  ·obtain ⟨cl,e,p⟩:=ih acc hr
   have hb:(k == bc)=false:=by simpa using hk
   refine ⟨cl,?_,λx=>?_⟩
   ·rw [ij,hf,hb,if_neg ar]
    exact e
   ·rw [p x]
    by_cases hm:(x,bc)∈r
    ·rw [if_pos hm,if_pos (aK _ hm)]
    ·rw [if_neg hm,if_neg (by
      intro z
      rcases List.mem_cons.mp z with z | z
      ·exact hk (congrArg lB z).symm
      ·exact hm z)]
theorem yd {scope:Scope}{env:Env}(h:∀x∈scope.names,x.2 = .free->∃c,env.cells.lookup x.1=some c) :
  ∃cl,nQ scope env=pure cl/\∀x,cl.lookup x=if (x,bc)∈scope.names then env.cells.lookup x else none:=by
 have hh:=Xy env (λ(x:Str×fJ) r=>match x with | (n,k)=>if (k == bc)=true then (sy env n >>= λa=>pure (bU ((n,a)::r))) else pure (bU r)) (λ_ _ _=>rfl) scope.names [] h
 obtain ⟨cl,e,p⟩:=hh
 refine ⟨cl,?_,λx=>by rw [p x];rfl⟩
 unfold nQ
 have e':sM scope.names ([]:List (Str×Addr)) (λ(x:Str×fJ) r=>match x with | (n,k)=>if (k == bc)=true then (sy env n >>= λa=>pure (bU ((n,a)::r))) else pure (bU r))=(pure cl:Sem _):=e
 show (sM scope.names ([]:List (Str×Addr)) _ >>= λcs=>pure cs)=_
 first
  | (rw [e'];rfl)
  | (simp only [bind_pure];exact e')
structure CompSc (osc:Scope) (ON:List Str) (scope:Scope) (own:Nat) (N:List Str) (caps:List Nat):Prop where
 kind:scope.kind = .function
 nocell:∀y∈scope.names,y.2≠.cell
 loc:∀y∈scope.names,y.2 = .local->scope.names.lookup y.1=some .local
 fre:∀y∈scope.names,y.2 = .free->scope.names.lookup y.1=some .free/\(osc.names.lookup y.1=some .cell\/osc.names.lookup y.1=some .free)
 len:N.length=own+caps.length
 cap:∀p∈(N.drop own).zip caps,ON[p.2]? = some p.1/\(p.1,bc)∈scope.names
noncomputable def yA (own:Nat) (caps:List Nat) (σ:St):St:=dm own none++caps.map λj=>(σ[j]?).getD none
noncomputable def Cx.block (X:Cx) (scope:Scope) (cl:List (Str×Addr)) (C:Addr) (N:List Str) (s:Shared) (H:Hp) (ex:List Addr):Cx :=
 { X with N:=N,s₀:=s,H₀:=H,env:=oC scope cl C X.env,outer:=X.stack,ex:=ex,fn:=λx=>decide (scope.names.lookup x=some .local),pn:=[],xe:=λ_ _=>False }
theorem yq {env:Env}:∀{names:List (Str×fJ)}{x:Str}{k:fJ},
  (names.map λ(n,k)=>if (k == bc && env.scope.kind == .function && env.kindOf n == some .cell) then (n,i5) else (n,k)).lookup x=some k ->
  ∃k',names.lookup x=some k'/\(k'=k\/(k' = .free/\k = .cell))
 | [],_,_,h=>by simp at h
 | (n,k0)::r,x,k,h=>by
  have ih:=@yq env r x k
  have h':dR x ((if (k0 == bc && env.scope.kind == .function && env.kindOf n == some .cell)=true then (n,i5) else (n,k0))::r.map λ(n,k)=>if (k == bc && env.scope.kind == .function && env.kindOf n == some .cell) then (n,i5) else (n,k))=some k:=h
  cases hx:x == n with
  | true =>
   by_cases hc:(k0 == bc && env.scope.kind == .function && env.kindOf n == some .cell)=true
   ·rw [if_pos hc,cD,hx] at h'
    cases h'
    refine ⟨k0,by rw [cD,hx],.inr ⟨?_,rfl⟩⟩
    rw [ba,ba] at hc
    exact su hc.1.1
   ·rw [if_neg hc,cD,hx] at h'
    cases h'
    exact ⟨k0,by rw [cD,hx],.inl rfl⟩
  | false =>
   have h2:dR x (r.map λ(n,k)=>if (k == bc && env.scope.kind == .function && env.kindOf n == some .cell) then (n,i5) else (n,k))=some k:=by
    by_cases hc:(k0 == bc && env.scope.kind == .function && env.kindOf n == some .cell)=true
    ·rw [if_pos hc,cD,hx] at h';exact h'
    ·rw [if_neg hc,cD,hx] at h';exact h'
   obtain ⟨k',e,d⟩:=ih h2
   exact ⟨k',by rw [cD,hx];exact e,d⟩
noncomputable def wR (X:Cx) (ifs:List Expr) (t:TT):Prop :=
 ∀(pins:List (Addr×Obj)) (s:Shared) (σ:St) (H:Hp) (Q:Bool->Hp->Prop),Inv X pins σ H s->t σ H Q ->
  ay (aD X.prog X.w) X.A (sM ifs true λc r=>if r=true then do let ok <- isTrue c X.env (eval c X.env);pure (bU ok) else pure (bU r)) (TP X pins σ Q) X.xe s
noncomputable def WG:TT:=λ_ H Q=>Q true H
theorem jH {X:Cx}:wR X [] WG:=λ_ _ _ H _ I h=>wpAny_tests_nil ⟨H,I,h⟩
theorem y6 {X:Cx}{c:Expr}{t:TT}(h:PT X c t):wR X [c] t:=λpins s σ H Q I hw=>wpAny_tests_one (h pins s σ H Q I hw)
section
variable {prog:Program}{w:aU}{A:b9}{R:mq->Shared->Prop}{s:Shared}
theorem wa {elt target iter:Expr}{ifs:List Expr}{scope:Scope}{pos:Pos}{it acc:ah}{env:Env}(I:Nat->Shared->Prop)
  (turn:∀n s,I n s->ay (aD prog w) A (eY it) (λr s₁=>match r with
   | none=>R (.ok .next) s₁
   | some v=>ay (aD prog w) A (cQ target it v) (λ_ s₂=>ay (aD prog w) A (fU target env v) (λ_ s₃ =>
     ay (aD prog w) A (sM ifs true λc r=>if r=true then do let ok <- isTrue c env (eval c env);pure (bU ok) else pure (bU r)) (λok s₄ =>
      if ok=true then ay (aD prog w) A (eval elt env) (λx s₅ =>
       ay (aD prog w) A (call (.builtin "list.append") [acc,x]) (λ_ s₆=>∃m,m<n/\I m s₆) (λ_ _=>False) s₅) (λ_ _=>False) s₄
      else ∃m,m<n/\I m s₄) (λ_ _=>False) s₃) (λ_ _=>False) s₂) (λ_ _=>False) s₁) (λ_ _=>False) s)
  (n:Nat) (h:I n s) :
  cX (aD prog w) A (.compLoop (.ListComp elt [⟨target,iter,ifs,0⟩] scope pos) 0 it acc env) R s:=by
 refine oE rfl I (λn s hI=>?_) n h
 show ay _ A ((oF (.ListComp elt [⟨target,iter,ifs,0⟩] scope pos) 0 it acc env).onRaise (λx=>do iF x env;lY x)) _ _ s
 refine pJ ?_
 rw [compTurn_list]
 refine aa (cW (aa (aW (turn n s hI) (λr s₁ h₁=>?_) λ_ _ h'=>h'.elim)))
 cases r with
 | none=>exact wpAny_pure h₁
 | some v =>
  refine aa (aW h₁ (λ_ s₂ h₂=>?_) λ_ _ h'=>h'.elim)
  refine aa (aW h₂ (λ_ s₃ h₃=>aa (aW h₃ (λok s₄ h₄=>?_) λ_ _ h'=>h'.elim)) λ_ _ h'=>h'.elim)
  cases ok with
  | false=>exact wpAny_pure ⟨rfl,h₄⟩
  | true =>
   exact aa (aa (aW h₄ (λx s₅ h₅=>aa (aW h₅ (λ_ s₆ h₆=>wpAny_pure (wpAny_pure ⟨rfl,h₆⟩)) λ_ _ h'=>h'.elim)) λ_ _ h'=>h'.elim))
end
section
variable {X:Cx}{pos:Pos}
noncomputable def YF (own:Nat) (caps:List Nat) (wi:TI) (g:TG) (ti:TT) (te:TE):TE:=λσ H Q=>wi σ H λJ H1=>∀acc,H1 acc=none ->
 ∃W:Nat->Nat->St->Hp->Prop,(∃m,W 0 m (yA own caps σ) (upd H1 acc (.lst [])))/\∀i m σ' H',W i m σ' H' ->
  (J.stop i H'/\Q (.ref acc) H') \/
  (J.go i H'/\∃NX:St->Hp->Prop,(∀σ2 H2,NX σ2 H2->∃m',m'<m/\W (i+1) m' σ2 H2) /\
   ∀x H2,J.yld i H' x H2->g x σ' H2 λσ3 H3=>ti σ3 H3 λok H4=>if ok=true then te σ3 H4 λv H5=>∃ys,H5 acc=some (.lst ys)/\ys.length<sizeLine/\NX σ3 (upd H5 acc (.lst (ys++[v]))) else NX σ3 H4)
theorem YR {osc:Scope}{ON N:List Str}{scope:Scope}{own:Nat}{caps:List Nat}{cl:List (Str×Addr)}{C:Addr}{pins:List (Addr×Obj)}{σ:St}{H:Hp}{s:Shared}{fp:List Addr}
  (S:CompSc osc ON scope own N caps) (hsc:X.env.scope=osc) (hcl:∀x,cl.lookup x=if (x,bc)∈scope.names then X.env.cells.lookup x else none)
  (I:Inv X pins σ H s) (hC:s.heap.objs.size<=C) (hf:∀b∈fp,yj X pins H b) (hfs:∀b∈fp,b<s.heap.objs.size):(X.block scope cl C N s H fp).Ok:=by
 have fromX:∀x c,cl.lookup x=some c->X.env.cells.lookup x=some c/\(x,bc)∈scope.names:=λx c e=>by
  rw [hcl x] at e
  by_cases hm:(x,bc)∈scope.names
  ·rw [if_pos hm] at e;exact ⟨e,hm⟩
  ·rw [if_neg hm] at e;cases e
 refine ⟨I.ok.mod,S.kind,I.ok.glob,I.ok.blt,hC,λx y c h1 h2=>I.ok.inj x y c (fromX x c h1).1 (fromX y c h2).1,λx hx=>?_,λx c h1 h2=>?_,I.ok.hd,I.ok.frames,.inl rfl,λb hb=>?_,I.bs,aF I.ok.bsz I.sz,λb o e hb=>?_,λb hb hb2=>?_,I.stack,I.stkFree⟩
 ·-- has
  have key:∀k,(k=i5\/k=bc)->(sA scope X.env).names.lookup x=some k->∃c,cl.lookup x=some c:=λk hk e=>by
   obtain ⟨k',e',d⟩:=yq (env:=X.env) e
   have hmem:=d9 e'
   have hfree:k' = .free:=by
    rcases d with d | d
    ·subst d
     rcases hk with z | z
     ·exact absurd z (S.nocell _ hmem)
     ·exact z
    ·exact d.1
   subst hfree
   obtain ⟨_,hk2⟩:=S.fre _ hmem rfl
   obtain ⟨c,hc⟩:=I.ok.has x (by unfold rG;rw [hsc];exact hk2)
   exact ⟨c,by rw [hcl x,if_pos hmem];exact hc⟩
  rcases hx with z | z
  ·exact key _ (.inl rfl) z
  ·exact key _ (.inr rfl) z
 ·-- cab
  have h1':scope.names.lookup x=some .local:=of_decide_eq_true h1
  have hm:=(fromX x c h2).2
  have:=(S.fre _ hm rfl).1
  rw [h1'] at this
  cases this
 ·refine ⟨aB (aI (hfs b hb) hC),λx c e=>(hf b hb).2.2.2.2.1 x c (fromX x c e).1⟩
 ·rcases (hf b hb).2.2.2.1 with z | z
  ·exact I.ok.noex b o e z
  ·exact absurd (aI (aw e) (aF I.ok.bsz z)) (cw _)
 ·rcases List.mem_cons.mp (I.stkSub b hb2) with z | z
  ·exact (hf b hb).2.1 z
  ·exact (hf b hb).2.2.1 z
theorem yL {osc:Scope}{ON N:List Str}{scope:Scope}{own:Nat}{caps:List Nat}{cl:List (Str×Addr)}{C D:Addr}{pins:List (Addr×Obj)}{σ:St}{H:Hp}{s:Shared}{h1:Heap}{fp:List Addr}
  (S:CompSc osc ON scope own N caps) (hsc:X.env.scope=osc) (hN:X.N=ON) (hcl:∀x,cl.lookup x=if (x,bc)∈scope.names then X.env.cells.lookup x else none)
  (I:Inv X pins σ H s) (hf:∀b∈fp,yj X pins H b) (hfs:∀b∈fp,b<s.heap.objs.size) (hD:D=s.heap.objs.size) (hC:C=s.heap.objs.size+1)
  (k:∀b o,s.heap.get? b=some o->h1.get? b=some o) (eD:h1.get? D=some { cls:=.type "list",data:=.seq #[] }) (hn:h1.Ns C λ_=>none) (t':Nat) :
  Inv (X.block scope cl C N s H fp) [] (yA own caps σ) (upd H D (.lst [])) { s with heap:=h1,toks:=t' }:=by
 subst hD
 subst hC
 have hCs:s.heap.objs.size<=s.heap.objs.size+1:=dH _
 have ok:=YR (C:=s.heap.objs.size+1) S hsc hcl I hCs hf hfs
 have fromX:∀x c,cl.lookup x=some c->X.env.cells.lookup x=some c/\(x,bc)∈scope.names:=λx c e=>by
  rw [hcl x] at e
  by_cases hm:(x,bc)∈scope.names
  ·rw [if_pos hm] at e;exact ⟨e,hm⟩
  ·rw [if_neg hm] at e;cases e
 have fr:∀a,s.heap.objs.size<=a->H a=none:=λa ha=>I.hok.fresh ha
 have newD:qw X.prog X.w (upd H s.heap.objs.size (.lst [])) h1 s.heap.objs.size (.lst []):=⟨aO _,[],0,.nil,eD⟩
 have cellK:∀x c,X.env.cells.lookup x=some c->∀v,s.heap.IsCell c v->h1.IsCell c v:=λx c _ v ⟨o,ho,hd⟩=>⟨o,k c o ho,hd⟩
 refine ⟨ok,rfl,I.bare,Un.laid k (av _) (fr _ (av _)),⟨_,hn,λi x v e1 e2 e3=>?_⟩,λx c e=>?_,?_,λx c e=>?_,λp hp=>absurd (show p∈([]:List (Addr×Obj)) from hp) (by simp),I.hok.laid k (av _) newD,?_⟩
 ·-- the captured names
  have e1':N[i]? = some x:=e1
  have hi:own<=i:=by
   by_cases hi:own<=i
   ·exact hi
   ·unfold yA at e2
    rw [cS (by simp;omega),ly] at e2
    split at e2 <;> cases e2
  obtain ⟨j',rfl⟩:∃j',i=own+j':=⟨i-own,∅⟩
  have e2':(caps.map λj=>(σ[j]?).getD none)[j']? = some (some v):=by
   unfold yA at e2
   rw [cI (by simp)] at e2
   simpa using e2
  rw [aq] at e2'
  cases hj:caps[j']? with
  | none=>rw [hj] at e2';cases e2'
  | some j =>
   rw [hj] at e2'
   have e3':(σ[j]?).getD none=some v:=bg e2'
   have e4:σ[j]? = some (some v):=by
    cases q:σ[j]? with
    | none=>rw [q] at e3';cases e3'
    | some z=>rw [q] at e3';exact congrArg some e3'
   have hz:(x,j)∈(N.drop own).zip caps:=by
    refine au (i:=j') ?_
    rw [dA]
    exact ⟨by rw [List.getElem?_drop];exact e1',hj⟩
   obtain ⟨c1,c2⟩:=S.cap _ hz
   obtain ⟨_,hk⟩:=S.fre _ c2 rfl
   have hkX:X.env.kindOf x=some .cell\/X.env.kindOf x=some .free:=by unfold rG;rw [hsc];exact hk
   obtain ⟨m,hm,hl⟩:=I.loc
   obtain ⟨u,ru,l⟩:=hl j x v (by rw [hN];exact c1) e4 (by
    rcases hkX with z | z
    ·exact .inr (.inl z)
    ·exact .inr (.inr z))
   refine ⟨u,ru,?_⟩
   rcases l with ⟨l1,_⟩ | ⟨_,c,lc,lv⟩
   ·rcases hkX with z | z
    ·rw [z] at l1;cases l1
    ·rw [z] at l1;cases l1
   ·refine .inr ⟨?_,c,by show cl.lookup x=some c;rw [hcl x,if_pos c2];exact lc,cellK x c lc _ lv⟩
    rcases e3 with z | z
    ·obtain ⟨k',e',d⟩:=yq (env:=X.env) z
     have:=(S.fre _ c2 rfl).1
     rw [e'] at this
     cases this
     rcases d with d | d
     ·cases d
     ·cases d.2
    ·exact z
 ·obtain ⟨v,z⟩:=I.cell x c (fromX x c e).1
  exact ⟨v,cellK x c (fromX x c e).1 v z⟩
 ·show upd H s.heap.objs.size (.lst []) (s.heap.objs.size+1)=none
  rw [ja (cG (fV _))]
  exact fr _ hCs
 ·have e':=(fromX x c e).1
  obtain ⟨v,z⟩:=I.cell x c e'
  rw [ja (aB z.lt)]
  exact I.freeC x c e'
 ·unfold yA
  show _=N.length
  rw [az,eG,af,S.len]
structure BlockAt (X:Cx) (pins:List (Addr×Obj)) (H:Hp) (C:Addr):Prop where
 free:H C=none
 loc:C≠X.env.locals
 new:X.s₀.heap.objs.size<=C
 cell:∀x c,X.env.cells.lookup x=some c->c≠C
 pin:∀p∈X.pn++pins,p.1≠C
theorem BlockAt.gone {pins:List (Addr×Obj)}{σ:St}{H:Hp}{C:Addr}{s:Shared}{h':Heap}(B:BlockAt X pins H C) (I:Inv X pins σ H s) (hs:dX C s.heap h'):Inv X pins σ H { s with heap:=h' } :=
 I.turned (t':=s.toks) (λb o hb e=>(hs.2 b hb).trans e) B.free B.loc (.inr B.new) B.cell B.pin
theorem QN {osc:Scope}{ON N:List Str}{scope:Scope}{own:Nat}{caps:List Nat}{cl:List (Str×Addr)}{tg elt iter:Expr}{ifs:List Expr}{g:TG}{ti:TT}{te:TE}{pins:List (Addr×Obj)}{σ:St}{H:Hp}{s:Shared}{fp:List Addr}{it:Addr}
  {tn:Nat->Heap->Prop} {J:It} {Q:VK} {RR:ah->Addr->mq->Shared->Prop} {E:ah->Shared->Prop}
  (hc:X.calm=true) (S:CompSc osc ON scope own N caps) (hsc:X.env.scope=osc) (hN:X.N=ON) (hcl:∀x,cl.lookup x=if (x,bc)∈scope.names then X.env.cells.lookup x else none)
  (hg:∀cl C s H ex,PG (X.block scope cl C N s H ex) tg g) (hif:∀cl C s H ex,wR (X.block scope cl C N s H ex) ifs ti) (he:∀cl C s H ex,PE (X.block scope cl C N s H ex) elt te)
  (I:Inv X pins σ H s) (T:Turn X.prog X.w X.K tg J fp it tn) (st:tn 0 s.heap) (hf:∀b∈fp,yj X pins H b)
  (hw:∀acc,H acc=none->∃W:Nat->Nat->St->Hp->Prop,(∃m,W 0 m (yA own caps σ) (upd H acc (.lst [])))/\∀i m σ' H',W i m σ' H' ->
   (J.stop i H'/\Q (.ref acc) H')\/(J.go i H'/\∃NX:St->Hp->Prop,(∀σ2 H2,NX σ2 H2->∃m',m'<m/\W (i+1) m' σ2 H2) /\
    ∀x H2,J.yld i H' x H2->g x σ' H2 λσ3 H3=>ti σ3 H3 λok H4=>if ok=true then te σ3 H4 λv H5=>∃ys,H5 acc=some (.lst ys)/\ys.length<sizeLine/\NX σ3 (upd H5 acc (.lst (ys++[v]))) else NX σ3 H4))
  (fin:∀(D C:Addr) (H':Hp) (s':Shared),Inv X pins σ H' s'->BlockAt X pins H' C->(∃m,s'.heap.Ns C m)->Q (.ref D) H'->RR (.ref D) C (.ok .next) s') :
  ay (aD X.prog X.w) X.A (oG []) (λacc s₃=>ay (aD X.prog X.w) X.A (mx scope X.env.globals cl [] X.env.qual none .none (some X.env)) (λcenv s₄ =>
   cX (aD X.prog X.w) X.A (.compStart (.ListComp elt [⟨tg,iter,ifs,0⟩] scope pos) 0 (.ref it) acc { cenv with scope:=sA scope X.env }) (RR acc cenv.locals) s₄) E s₃) E s:=by
 have hfs:∀b∈fp,b<s.heap.objs.size:=λb hb=>by
  obtain ⟨o,e,_⟩:=T.obj _ _ st b hb
  exact aw e
 refine bx (ia S.nocell (by intro y hy;simp at hy) (λh₁ hns₁ hsb₁=>?_) S.kind)
 dsimp only at hns₁ hsb₁ ⊢
 generalize hH2:s.heap.push { cls:=.type "list",dict:=none,data:=.seq ([]:List ah).toArray }=H2 at hns₁ hsb₁ ⊢
 have hCsz:H2.objs.size=s.heap.objs.size+1:=by rw [<- hH2,cx]
 have old:∀b o,s.heap.get? b=some o->h₁.get? b=some o:=λb o e=>hsb₁.extBut b o (aB (by rw [hCsz];exact c5 (aw e))) (ak _ (hH2 ▸ ak _ e))
 have eD:h₁.get? s.heap.objs.size=some { cls:=.type "list",data:=.seq #[] }:=hsb₁.extBut _ _ (aB ∅) (ak _ (hH2 ▸ aA _ rfl))
 have hDn:H s.heap.objs.size=none:=I.hok.fresh (av _)
 obtain ⟨W,⟨m0,w0⟩,turn⟩:=hw s.heap.objs.size hDn
 have hns:h₁.Ns H2.objs.size λ_=>none:=hns₁
 have I1:Inv (X.block scope cl H2.objs.size N s H fp) [] (yA own caps σ) (upd H s.heap.objs.size (.lst [])) { s with heap:=h₁,toks:=s.toks+([]:List (Str×ah)).length } :=
  yL S hsc hN hcl I hf hfs rfl hCsz old eD hns _
 have st1:tn 0 h₁:=T.keep 0 _ _ st λb _ o e=>old b o e
 have fpB:∀{H':Hp},(∀b∈fp,H' b=none)->∀b∈fp,yj (X.block scope cl H2.objs.size N s H fp) [] H' b:=λ{H'} hn b hb=>by
  have ok:=I1.ok
  exact ⟨hn b hb,(ok.exf b hb).1,ok.exfs b hb,.inl hb,(ok.exf b hb).2,λp hp=>absurd (show p∈([]:List (Addr×Obj)) from hp) (by simp)⟩
 have back:∀{σ':St} {H':Hp} {s':Shared},Inv (X.block scope cl H2.objs.size N s H fp) [] σ' H' s'->Q (.ref s.heap.objs.size) H'->RR (.ref s.heap.objs.size) H2.objs.size (.ok .next) s':=λ{σ' H' s'} J1 q=>by
  have J2:Inv X pins σ H' s':=I.call' (ch:=fp) J1.os J1.base J1.hok J1.bare λb hb=>⟨(hf b hb).2.2.2.1,(hf b hb).2.1,(hf b hb).2.2.2.2.1,(hf b hb).2.2.2.2.2⟩
  obtain ⟨m,hm,_⟩:=J1.loc
  refine fin _ _ H' s' J2 ⟨J1.free,cG (aI I.lt ∅),aF I.sz ∅,λx c e z=>?_,λp hp z=>?_⟩ ⟨m,hm⟩ q
  ·obtain ⟨v,y⟩:=I.cell x c e
   have h1:H2.objs.size<s.heap.objs.size:=z ▸ y.lt
   exact absurd h1 ∅
  ·have h1:H2.objs.size<s.heap.objs.size:=z ▸ aw (I.pin p hp).1
   exact absurd h1 ∅
 have loop:∀s₃:Shared,s₃={ s with heap:=h₁,toks:=s.toks+([]:List (Str×ah)).length } ->
   cX (aD X.prog X.w) X.A (.compLoop (.ListComp elt [⟨tg,iter,ifs,0⟩] scope pos) 0 (.ref it) (.ref s.heap.objs.size) (oC scope cl H2.objs.size X.env)) (RR (.ref s.heap.objs.size) H2.objs.size) s₃:=by
  rintro s₃ rfl
  refine wa (λn s'=>∃i σ' H',Inv (X.block scope cl H2.objs.size N s H fp) [] σ' H' s'/\tn i s'.heap/\(∀b∈fp,H' b=none)/\W i n σ' H') ?_ m0
   ⟨0,_,_,I1,st1,λb hb=>by rw [ja (aB (hfs b hb))];exact (hf b hb).1,w0⟩
  rintro n s3 ⟨i,σ3,H3,I3,st3,fr3,w3⟩
  rcases turn i n σ3 H3 w3 with ⟨stop,qn⟩ | ⟨go,NX,hNX,step⟩
  ·refine thn (T.done (X.block scope cl H2.objs.size N s H fp) rfl rfl rfl hc i [] s3 σ3 H3 _ I3 (fpB fr3) st3 stop) λr s4 ⟨hr,I4⟩=>?_
   subst hr
   exact back I4 qn
  ·refine thn (T.item (X.block scope cl H2.objs.size N s H fp) rfl rfl rfl hc i [] s3 σ3 H3 _ I3 (fpB fr3) st3 go) λr s4 ⟨u,hr,h4⟩=>?_
   subst hr
   refine thn h4 λ_ s5 ⟨x,H5,I5,r5,y5,st5,fr5⟩=>?_
   have I5':=I5.pinned (fpB fr5) (T.obj _ _ st5)
   refine thn (hg cl H2.objs.size s H fp _ s5 σ3 H5 x u _ I5' r5 (step x H5 y5)) λ_ s6 ⟨σ6,H6,I6,q6⟩=>?_
   refine thn (hif cl H2.objs.size s H fp _ s6 σ6 H6 _ I6 q6) λok s7 ⟨H7,I7,q7⟩=>?_
   have again:∀{s8:Shared} {σ8:St} {H8:Hp},Inv (X.block scope cl H2.objs.size N s H fp) ([]++zc fp s5.heap) σ8 H8 s8->NX σ8 H8->∃m,m<n/\∃i σ' H',Inv (X.block scope cl H2.objs.size N s H fp) [] σ' H' s8/\tn i s8.heap/\(∀b∈fp,H' b=none)/\W i m σ' H':=λ{s8 σ8 H8} I8 n8=>by
    obtain ⟨m',hm,w8⟩:=hNX σ8 H8 n8
    refine ⟨m',hm,i+1,σ8,H8,I8.unpinned,T.keep _ _ _ st5 λb hb o e=>(I8.pin (b,o) (aE _ (aE _ (qB hb e)))).1,λb hb=>?_,w8⟩
    obtain ⟨o,e,d⟩:=T.obj _ _ st5 b hb
    exact (I8.pin (b,o) (aE _ (aE _ (qB hb e)))).2.1
   cases ok with
   | false =>
    rw [if_neg ar] at q7 ⊢
    exact again I7 q7
   | true =>
    rw [if_pos rfl] at q7 ⊢
    refine thn (he cl H2.objs.size s H fp _ s7 σ6 H7 _ I7 q7) λv s8 ⟨y,H8,I8,r8,ys,e8,z8,q8⟩=>?_
    refine thn (qM _ s8 σ6 H8 (.ref s.heap.objs.size) [y] _ [v] (λ_ H9=>NX σ6 H9) I8 rfl (.cons r8 .nil) ⟨_,ys,y,rfl,rfl,e8,z8,q8⟩) λ_ s9 ⟨_,H9,I9,_,q9⟩=>?_
    exact again I9 q9
 exact fM (loop _ rfl) (T.self _ 0 _ _ _ st1 (loop _ rfl))
theorem Jd {osc:Scope}{ON N:List Str}{scope:Scope}{own:Nat}{caps:List Nat}{pins:List (Addr×Obj)}{σ:St}{H:Hp}{s:Shared}(S:CompSc osc ON scope own N caps) (hsc:X.env.scope=osc) (I:Inv X pins σ H s) :
  ∀x∈scope.names,x.2 = .free->∃c,X.env.cells.lookup x.1=some c:=λx hx hk=>I.ok.has x.1 (by unfold rG;rw [hsc];exact (S.fre x hx hk).2)
theorem jW {osc:Scope}{ON N:List Str}{scope:Scope}{own:Nat}{caps:List Nat}{tg elt iter:Expr}{ifs:List Expr}{wi:TI}{g:TG}{ti:TT}{te:TE}(S:CompSc osc ON scope own N caps)
  (hc:X.calm=true) (hsc:X.env.scope=osc) (hN:X.N=ON) (hi:PI X tg iter wi)
  (hg:∀cl C s H ex,PG (X.block scope cl C N s H ex) tg g) (hif:∀cl C s H ex,wR (X.block scope cl C N s H ex) ifs ti) (he:∀cl C s H ex,PE (X.block scope cl C N s H ex) elt te)
  (hs:∀x,cn iter X.env x=pure x:=by intro _;rfl):PE X (.ListComp elt [⟨tg,iter,ifs,0⟩] scope pos) (YF own caps wi g ti te):=by
 intro pins s σ H Q I h
 obtain ⟨cl,hclos,hcl⟩:=yd (Jd S hsc I)
 rw [nu]
 refine dM (use:=none) rfl hs hclos S.kind S.loc (thn (hi pins s σ H _ I h) λv s1 h1=>thn h1 λitv s2 h2=>?_)
 obtain ⟨it,fp,tn,J,H2,e,I2,T,st2,f2,hw⟩:=h2
 subst e
 refine QN (RR:=λacc C=>rH (aD X.prog X.w) X.A X.xe none (EP X pins σ Q) acc C) hc S hsc hN hcl hg hif he I2 T st2 f2 hw λD C H' s' J1 B ⟨m,hm⟩ q=>?_
 exact ⟨m,hm,λh' hs'=>⟨.ref D,H',B.gone J1 hs',rfl,q⟩⟩
theorem ww {osc:Scope}{ON N:List Str}{scope:Scope}{own:Nat}{caps:List Nat}{tg elt iter:Expr}{ifs:List Expr}{wi:TI}{g:TG}{ti:TT}{te:TE}{j:Nat}{y:Str}{py spos:Pos}(S:CompSc osc ON scope own N caps)
  (hnd:X.N.Nodup) (hj:X.N[j]? = some y) (hy:Loc X.env.scope y)
  (hc:X.calm=true) (hsc:X.env.scope=osc) (hN:X.N=ON) (hi:PI X tg iter wi)
  (hg:∀cl C s H ex,PG (X.block scope cl C N s H ex) tg g) (hif:∀cl C s H ex,wR (X.block scope cl C N s H ex) ifs ti) (he:∀cl C s H ex,PE (X.block scope cl C N s H ex) elt te)
  (hsw:iE (.ListComp elt [⟨tg,iter,ifs,0⟩] scope pos) (some (.Name y py)) spos.line X.env=pure true:=by rfl)
  (hf:X.fn y=true\/X.env.scope.names.lookup y=some .local:=by first | exact .inl rfl | exact .inr rfl | assumption)
  (hs:∀x,cn iter X.env x=pure x:=by intro _;rfl):PS X (.Assign [.Name y py] (.ListComp elt [⟨tg,iter,ifs,0⟩] scope pos) spos) (Uo (YF own caps wi g ti te) (uX j)):=by
 intro pins s σ H D0 I h
 obtain ⟨cl,hclos,hcl⟩:=yd (Jd S hsc I)
 rw [exec_Assign_Name_used _ _ _ _ hsw]
 refine aa (cW (aa ?_))
 show ay _ X.A (do let _ <- comprehension (.ListComp elt [⟨tg,iter,ifs,0⟩] scope pos) scope X.env _ (oG []) false (eval iter X.env) (some (fU (.Name y py) X.env))) _ _ s
 refine aa (aW (dM (use:=some (fU (.Name y py) X.env)) (Q:=λ_ s'=>SP X pins D0 .next s') rfl hs hclos S.kind S.loc
  (thn (hi pins s σ H _ I h) λv s1 h1=>thn h1 λitv s2 h2=>?_)) (λ_ s' hq=>wpAny_pure (wpAny_pure hq)) λ_ _ e=>e)
 obtain ⟨it,fp,tn,J,H2,e,I2,T,st2,f2,hw⟩:=h2
 subst e
 refine QN (Q:=λv H'=>D0.nx (σ.set j (some v)) H') (RR:=λacc C=>rH (aD X.prog X.w) X.A X.xe (some (fU (.Name y py) X.env)) (λ_ s'=>SP X pins D0 .next s') acc C) hc S hsc hN hcl hg hif he I2 T st2 f2 hw λD C H' s' J1 B ⟨m,hm⟩ q=>?_
 show ay _ X.A (fU (.Name y py) X.env (.ref D)) _ _ s'
 refine oa (gS (v:=V.ref D) J1 hnd hj hy rfl (λs2 J2 ⟨a,hsame,ha⟩=>?_) hf)
 have hCa:C≠a:=by
  rcases ha with z | z
  ·rw [z];exact B.loc
  ·exact λz2=>B.cell y a z z2.symm
 exact ⟨m,hm.sameBut hsame hCa,λh' hs'=>⟨_,H',B.gone J2 hs',q⟩⟩
end
theorem qc {K:ai}{a acc:Addr}{xs:List V}{g:TG}{ti:TT}{te:TE}{R:Hp->Prop}{σ:St}{H:Hp}(Pv:Nat->St->Hp->Prop) (h0:Pv 0 σ H) (hl:∀i σ H,i<=xs.length->Pv i σ H->SqL K H a xs)
  (hs:∀i x σ H,xs[i]? = some x->Pv i σ H->g x σ H λσ3 H3=>ti σ3 H3 λok H4=>if ok=true then te σ3 H4 λv H5=>∃ys,H5 acc=some (.lst ys)/\ys.length<sizeLine/\Pv (i+1) σ3 (upd H5 acc (.lst (ys++[v]))) else Pv (i+1) σ3 H4)
  (hd:∀σ H,Pv xs.length σ H->R H) :
  ∃W:Nat->Nat->St->Hp->Prop,(∃m,W 0 m σ H)/\∀i m σ' H',W i m σ' H' ->
   ((Itl K a).stop i H'/\R H')\/((Itl K a).go i H'/\∃NX:St->Hp->Prop,(∀σ2 H2,NX σ2 H2->∃m',m'<m/\W (i+1) m' σ2 H2) /\
    ∀x H2,(Itl K a).yld i H' x H2->g x σ' H2 λσ3 H3=>ti σ3 H3 λok H4=>if ok=true then te σ3 H4 λv H5=>∃ys,H5 acc=some (.lst ys)/\ys.length<sizeLine/\NX σ3 (upd H5 acc (.lst (ys++[v]))) else NX σ3 H4):=by
 refine ⟨λi m σ H=>m=xs.length-i/\i<=xs.length/\Pv i σ H,⟨xs.length,by simp,aO _,h0⟩,?_⟩
 rintro i m σ H ⟨rfl,hi,p⟩
 have q:=hl i σ H hi p
 by_cases hlt:i<xs.length
 ·refine .inr ⟨⟨xs,xs[i],q,by simp [hlt]⟩,Pv (i+1),λσ' H' p'=>⟨xs.length-(i+1),∅,rfl,hlt,p'⟩,λx H' y=>?_⟩
  obtain ⟨e,y⟩:=y
  subst e
  exact hs i x σ _ (y xs q) p
 ·have e:i=xs.length:=∅
  subst e
  exact .inl ⟨⟨xs,q,av _⟩,hd σ H p⟩
theorem QP {K:ai}{a acc:Addr}{xs:List V}{g:TG}{ti:TT}{te:TE}{R:Hp->Prop}{σ:St}{H:Hp}(Pv:Nat->St->Hp->Prop) (h0:Pv 0 σ H) (hl:∀i σ H,i<=xs.length->Pv i σ H->SqT K H a xs)
  (hs:∀i x σ H,xs[i]? = some x->Pv i σ H->g x σ H λσ3 H3=>ti σ3 H3 λok H4=>if ok=true then te σ3 H4 λv H5=>∃ys,H5 acc=some (.lst ys)/\ys.length<sizeLine/\Pv (i+1) σ3 (upd H5 acc (.lst (ys++[v]))) else Pv (i+1) σ3 H4)
  (hd:∀σ H,Pv xs.length σ H->R H) :
  ∃W:Nat->Nat->St->Hp->Prop,(∃m,W 0 m σ H)/\∀i m σ' H',W i m σ' H' ->
   ((Itt K a).stop i H'/\R H')\/((Itt K a).go i H'/\∃NX:St->Hp->Prop,(∀σ2 H2,NX σ2 H2->∃m',m'<m/\W (i+1) m' σ2 H2) /\
    ∀x H2,(Itt K a).yld i H' x H2->g x σ' H2 λσ3 H3=>ti σ3 H3 λok H4=>if ok=true then te σ3 H4 λv H5=>∃ys,H5 acc=some (.lst ys)/\ys.length<sizeLine/\NX σ3 (upd H5 acc (.lst (ys++[v]))) else NX σ3 H4):=by
 refine ⟨λi m σ H=>m=xs.length-i/\i<=xs.length/\Pv i σ H,⟨xs.length,by simp,aO _,h0⟩,?_⟩
 rintro i m σ H ⟨rfl,hi,p⟩
 have q:=hl i σ H hi p
 by_cases hlt:i<xs.length
 ·refine .inr ⟨⟨xs,xs[i],q,by simp [hlt]⟩,Pv (i+1),λσ' H' p'=>⟨xs.length-(i+1),∅,rfl,hlt,p'⟩,λx H' y=>?_⟩
  obtain ⟨e,y⟩:=y
  subst e
  exact hs i x σ _ (y xs q) p
 ·have e:i=xs.length:=∅
  subst e
  exact .inl ⟨⟨xs,q,av _⟩,hd σ H p⟩
theorem xD {lo:Int}{n:Nat}{acc:Addr}{g:TG}{ti:TT}{te:TE}{R:Hp->Prop}{σ:St}{H:Hp}(Pv:Nat->St->Hp->Prop) (h0:Pv 0 σ H)
  (hs:∀i σ H,i<n->Pv i σ H->g (.int (lo+i)) σ H λσ3 H3=>ti σ3 H3 λok H4=>if ok=true then te σ3 H4 λv H5=>∃ys,H5 acc=some (.lst ys)/\ys.length<sizeLine/\Pv (i+1) σ3 (upd H5 acc (.lst (ys++[v]))) else Pv (i+1) σ3 H4)
  (hd:∀σ H,Pv n σ H->R H) :
  ∃W:Nat->Nat->St->Hp->Prop,(∃m,W 0 m σ H)/\∀i m σ' H',W i m σ' H' ->
   ((Itr lo n).stop i H'/\R H')\/((Itr lo n).go i H'/\∃NX:St->Hp->Prop,(∀σ2 H2,NX σ2 H2->∃m',m'<m/\W (i+1) m' σ2 H2) /\
    ∀x H2,(Itr lo n).yld i H' x H2->g x σ' H2 λσ3 H3=>ti σ3 H3 λok H4=>if ok=true then te σ3 H4 λv H5=>∃ys,H5 acc=some (.lst ys)/\ys.length<sizeLine/\NX σ3 (upd H5 acc (.lst (ys++[v]))) else NX σ3 H4):=by
 refine ⟨λi m σ H=>m=n-i/\i<=n/\Pv i σ H,⟨n,by simp,aO _,h0⟩,?_⟩
 rintro i m σ H ⟨rfl,hi,p⟩
 by_cases hlt:i<n
 ·refine .inr ⟨hlt,Pv (i+1),λσ' H' p'=>⟨n-(i+1),∅,rfl,hlt,p'⟩,λx H' y=>?_⟩
  obtain ⟨e,y⟩:=y
  subst e y
  exact hs i σ _ hlt p
 ·have e:i=n:=∅
  subst e
  exact .inl ⟨av _,hd σ H p⟩
end L2
end
section
namespace L2
structure Cal (P:Program) (w:aU) (K:ai) (mg:Str->Option ah) (base:Heap) (k:Nat) (x:Str) (ps:List Str) (sp:Sp):Prop where
 ex:∃f fd,FnOk P w K mg base CX0 k f fd ps sp/\y9 K fd ps []/\mg x=some (.ref f)/\bK K (.ref f)=true
theorem je {X:Cx}{k:Nat}{x:Str}{ps:List Str}{sp:Sp}{e:Expr}{es:List Expr}{t:TA}{p pos:Pos}(c:Cal X.prog X.w X.K X.mg X.base k x ps sp) (hr:Room k X.A) (hg:Gl X x) (ha:PA X (e::es) t)
  (hdb:(x == ("__debug__" : Str))=false:=by decide) (he:aN (e::es) X.env=(false,eval e X.env)::aN es X.env:=by rfl) (hpl:(cT pos (aN es X.env)).any (·.1)=false:=by rfl) :
  PE X (.Call (.Name x p) (e::es) [] pos) (Uw sp [] E0 t):=by
 obtain ⟨f,fd,F,hb,hm,hk⟩:=c.ex
 exact Uf F hr hg hm hk hb .nil UB ha hdb he hpl
theorem Cal.mk' {P:Program}{w:aU}{K:ai}{mg:Str->Option ah}{base:Heap}{k:Nat}{x:Str}{ps:List Str}{sp:Sp}{st:Stmt}{h:Heap}{f:Addr}{oc:ah}{od an:Option Addr}{osl:Array (Option ah)}{kV doc pm cdv ct:ah}
  (X:K.In h) (G:h.Ns mainGlobals mg) (a:aQ K mainGlobals x=some (some (.ref f)))
  (l:K.lookup f=some ⟨oc,od,.func (bD x x (jY st) (jO st) (j9 st) .none kV doc pm an cdv ct),osl⟩) (c:cz K cdv x=true) (k':bK K (.ref f)=true)
  (hb:∀(kV doc pm:ah) (an:Option Addr) (cdv ct:ah) (us:List ah),us.length=ps.length->cC (bD x x (jY st) (jO st) (j9 st) .none kV doc pm an cdv ct) ⟨us,[]⟩=pure (ps.zip us))
  (ok:∀{f:Addr} {fd:FuncData},Fun K x x st f fd->FnOk P w K mg base CX0 k f fd ps sp):Cal P w K mg base k x ps sp:=by
 have F:=vQ (st:=st) l c k'
 exact ⟨f,_,ok F,F.binds hb,aM X G a,k'⟩
section
variable {X:Cx}
theorem Qi:qP X (.builtin "isinstance") (λxs H Q=>∃x n t b,xs=[x,.ty n]/\TyOf X.K H x t/\aG X.K t (.type n)=some b/\Q (.bl b) H):=by
 intro pins s σ H xs us Q I r h
 obtain ⟨x,n,t,b,rfl,ty,e,q⟩:=h
 obtain ⟨u,w',rfl,r1,r2⟩:=Zb r
 cases (show w'=fT n from r2)
 exact ZT I r1 ty e λtk=>⟨.bl b,H,I.tok tk,rfl,q⟩
noncomputable def Uy (i j:Int):Prop:=0<j/\j<2 ^ 200
theorem um:OpR X (ee .FloorDiv) (rI Uy λi j=>.int (i / j)):=opI λi j _ _ _ _ _ hc q=>by
 have h1:(0:Int)<j:=hc.1
 have h2:j<2 ^ 200:=hc.2
 refine floordiv_int ∅ (by rw [iH i ∅];exact q) (.inl (PyProof.noPylong_of_log2 ?_))
 have h3:j.natAbs<2 ^ 200:=∅
 have h4:j.natAbs≠0:=∅
 have:=(Nat.log2_lt h4).mpr h3
 omega
theorem YW (hc:X.calm=true):qP X (.builtin "all") (λxs H Q=>∃(p:Addr) (bs:List Bool),xs=[.ref p]/\SqL X.K H p (bs.map V.bl)/\Q (.bl (bs.all λb=>b)) H):=by
 intro pins s σ H xs us Q I r h
 obtain ⟨p,bs,rfl,hq,q⟩:=h
 obtain ⟨u,rfl,ru⟩:=y7 r
 cases ru
 obtain ⟨its,rv,pl,hz⟩:=I.list hq
 have hne:p≠s.heap.objs.size:=by
  obtain ⟨o,n,e,_⟩:=id pl
  exact aB (aw e)
 have hlen:its.length=bs.length:=by rw [<- rv.length,af]
 have itsAt:∀i v,its[i]? = some v->∃b,bs[i]? = some b/\v=lJ b:=λi v e=>by
  have hi:i<its.length:=(List.getElem?_eq_some_iff.mp e).1
  have hb:(bs.map V.bl)[i]? = some (V.bl (bs[i]'∅)):=by rw [aq,ag ∅];rfl
  obtain ⟨u,h1,h2⟩:=rv.get hb
  rw [e] at h1
  cases h1
  exact ⟨bs[i]'∅,ag ∅,h2⟩
 refine call_all_walk (eK pl.isList ?_)
 refine ⟨s.heap.objs.size,_,_,_,_,_,λi=>bs.getD i true,rfl,Walks.list (show (X.A.in1).handled=none from I.ok.hd hc) s.heap.objs.size p hne its.toArray,⟨⟨_,aA _ rfl,rfl,rfl⟩,pl.isList.at λo e=>ak _ e⟩,?_,?_⟩
 ·intro i v s' Q' E' hP hQ
  obtain ⟨b,hb,rfl⟩:=itsAt i v (by simpa using hP)
  have e:bs.getD i true=b:=by rw [ao,hb];rfl
  have hQ:Q' (bs.getD i true) s':=hQ
  rw [e] at hQ
  exact c3 hQ
 ·intro h' tk hk
  have e:((aV its.toArray.size).all λi=>bs.getD i true)=bs.all λb=>b:=by
   rw [ax,hlen,d7,bQ,bQ]
   constructor
   ·intro z b hb
    obtain ⟨i,hi,rfl⟩:=List.mem_iff_getElem.mp hb
    have:=z i (List.mem_range.mpr hi)
    rw [ao,ag hi] at this
    exact this
   ·intro z i hi
    have hi':=List.mem_range.mp hi
    rw [ao,ag hi']
    exact z _ (bW hi')
  rw [e]
  refine ⟨.bl _,H,I.kept (t':=tk) λb o eo=>hk b o (by
   intro z
   have:=List.mem_singleton.mp z
   subst this
   exact absurd (aw eo) (cw _)) (ak _ eo),rfl,q⟩
end
noncomputable def kitT (a b:String):Option Bool:=if (fT a == fT b)=true then some true else if PySem.W.kitMeta b=true then (fastBuiltinMro a).map (·.contains (.type b)) else none
theorem qq (K:ai) (a b:String):aG K (.type a) (.type b)=kitT a b:=rfl
theorem uW (K:ai):aG K (.type "int") (.type "bool")=some false:=(qq K _ _).trans (by decide +kernel)
theorem km (K:ai):aG K (.type "int") (.type "int")=some true:=(qq K _ _).trans (by decide +kernel)
theorem ub (K:ai):aG K (.type "bool") (.type "bool")=some true:=(qq K _ _).trans (by decide +kernel)
theorem Jq (K:ai):aG K (.type "list") (.type "bool")=some false:=(qq K _ _).trans (by decide +kernel)
theorem JY (K:ai):aG K (.type "list") (.type "int")=some false:=(qq K _ _).trans (by decide +kernel)
theorem QL (K:ai):aG K (.type "list") (.type "str")=some false:=(qq K _ _).trans (by decide +kernel)
theorem uq (K:ai):aG K (.type "list") (.type "list")=some true:=(qq K _ _).trans (by decide +kernel)
theorem vy (K:ai):aG K (.type "list") (.type "tuple")=some false:=(qq K _ _).trans (by decide +kernel)
theorem hW (K:ai):aG K (.type "tuple") (.type "bool")=some false:=(qq K _ _).trans (by decide +kernel)
theorem JL (K:ai):aG K (.type "tuple") (.type "int")=some false:=(qq K _ _).trans (by decide +kernel)
theorem Jj (K:ai):aG K (.type "tuple") (.type "str")=some false:=(qq K _ _).trans (by decide +kernel)
theorem vw (K:ai):aG K (.type "tuple") (.type "list")=some false:=(qq K _ _).trans (by decide +kernel)
theorem yE (K:ai):aG K (.type "tuple") (.type "tuple")=some true:=(qq K _ _).trans (by decide +kernel)
noncomputable def Ext (b:Addr) (H H':Hp):Prop:=∀c o,H c=some o->c≠b->H' c=some o
theorem Ext.refl {b:Addr}{H:Hp}:Ext b H H:=λ_ _ h _=>h
theorem Ext.trans {b:Addr}{H H1 H2:Hp}(x:Ext b H H1) (y:Ext b H1 H2):Ext b H H2:=λc o h n=>y c o (x c o h n) n
theorem Ext.of_same {b:Addr}{H H':Hp}(x:jq H H'):Ext b H H':=λc o h _=>x c o h
theorem Ext.put {b:Addr}{H:Hp}{o:HO}:Ext b H (upd H b o):=λc _ h n=>by rw [ja n];exact h
theorem jq.new {H:Hp}{p:Addr}{o:HO}(n:H p=none):jq H (upd H p o):=λc u h=>by rw [ja (j4 h n)];exact h
theorem Ext.new {b:Addr}{H:Hp}{p:Addr}{o:HO}(n:H p=none):Ext b H (upd H p o):=Ext.of_same (jq.new n)
theorem Ext.free {b:Addr}{H H':Hp}(x:Ext b H H') {p:Addr}(h:H' p=none) (n:p≠b):H p=none:=by
 cases q:H p with
 | none=>rfl
 | some o=>rw [x p o q n] at h;cases h
end L2
end
section
namespace L2
section
variable {X:Cx}
theorem jf (K:ai) (h:X.K=K:=by rfl):IxR X (Wi K):=by subst h;exact VW
theorem jx (K:ai) (h:X.K=K:=by rfl):IxR X (W5 K):=by subst h;exact UY
theorem jg (K:ai) (h:X.K=K:=by rfl):qP X (.builtin "len") (λxs H Q=>∃p ys,xs=[.ref p]/\(SqL K H p ys\/SqT K H p ys)/\Q (.int ys.length) H):=by subst h;exact Jp
theorem vM (K:ai) (h:X.K=K:=by rfl):OpR X (cu .In) (rIn K false):=by subst h;exact Yu
theorem zY (K:ai) (h:X.K=K:=by rfl):OpR X (cu .NotIn) (rIn K true):=by subst h;exact Jn
theorem jZ (K:ai) (h:X.K=K:=by rfl):qP X (.builtin "isinstance") (λxs H Q=>∃x n t b,xs=[x,.ty n]/\TyOf K H x t/\aG K t (.type n)=some b/\Q (.bl b) H):=by subst h;exact Qi
theorem zk (K:ai) (hc:X.calm=true) (h:X.K=K:=by rfl):qP X (.builtin "all") (λxs H Q=>∃(p:Addr) (bs:List Bool),xs=[.ref p]/\SqL K H p (bs.map V.bl)/\Q (.bl (bs.all λb=>b)) H):=by subst h;exact YW hc
theorem qm {tg l:Expr}{tl:TE}(K:ai) (hl:PE X l tl) (h:X.K=K:=by rfl):PI X tg l (ZA K tl):=by subst h;exact Ub hl
theorem vW {tg l:Expr}{tl:TE}(K:ai) (hl:PE X l tl) (h:X.K=K:=by rfl):PI X tg l (WX K tl):=by subst h;exact UH hl
theorem xB {es:List Expr}{k:Nat}{t:TGs}{n:Nat}{pos:Pos}(K:ai) (hc:X.calm=true) (h:PGs X es t)
  (hn:(d6 es X.env).length=n:=by rfl) (hst:(d6 es X.env).findIdx? (·.1)=none:=by rfl) (hK:X.K=K:=by rfl):PG X (.Tuple es k pos) (W7 K n t):=by subst hK;exact Wq hc h hn hst
theorem vI {T id:String}{name:Str}{r:V->List V->Hp->VK->Prop}{o e:Expr}{es:List Expr}{to:TE}{t:TA}{apos cpos:Pos}(K:ai) (pa:PlainAttrs T) (slot:Slot T name id) (hty:rz (.builtin id)=pure (.type "method_descriptor")) (hm:MtR X id r) (ho:PE X o to) (ha:PA X (e::es) t)
  (hbase:f7 o name X.env (eval o X.env)=eval o X.env:=by rfl)
  (hfew:((cT cpos (aN (e::es) X.env)).all (λx=>!x.1) && (mr cpos (i7 [] X.env)).all (λx=>x.1.isSome)
   && decide ((e::es).length+([]:List lM).length+(if ([]:List lM).isEmpty then 0 else 1)<30))=true:=by rfl)
  (hline:(apos.endLine == cpos.line)=true:=by rfl) (hs:aN (e::es) X.env=(false,eval e X.env)::aN es X.env:=by rfl) (hplain:(cT cpos (aN es X.env)).any (·.1)=false:=by rfl) (hK:X.K=K:=by rfl) :
  PE X (.Call (.Attribute o name apos) (e::es) [] cpos) (tBM K T r to t):=by subst hK;exact Gw pa slot hty hm ho ha hbase hfew hline hs hplain
end
noncomputable def New (H:Hp) (o:HO) (Q:VK):Prop:=∀p H',H p=none->H' p=some o->jq H H'->Q (.ref p) H'
theorem New.at {H:Hp}{o:HO}{Q:VK}(h:New H o Q):∀p,H p=none->Q (.ref p) (upd H p o):=λp n=>h p _ n j8 (jq.new n)
section
variable {X:Cx}{es:List Expr}{t:TA}{pos:Pos}
noncomputable def G2 (t:TA):TE:=λσ H Q=>t σ H λxs H1=>xs.length<=sizeLine/\New H1 (.tup xs) Q
noncomputable def Go (t:TA):TE:=λσ H Q=>t σ H λxs H1=>xs.length<=sizeLine/\New H1 (.lst xs) Q
theorem js {x1}(h:PA X es t):PE X (.Tuple es x1 pos) (G2 t):=by
 intro pins s σ H Q I hq
 refine wpAny_Tuple_spliced (thn (h pos pins s σ H _ I hq) λus s1 ⟨xs,H1,I1,r,z,q⟩=>⟨by rw [<- r.length];exact z,?_⟩)
 have hf:H1 s1.heap.objs.size=none:=I1.hok.fresh (av _)
 refine ⟨.ref s1.heap.objs.size,upd H1 s1.heap.objs.size (.tup xs),I1.laid (t':=s1.toks) (λb u e=>ak _ e) (av _) ?_,rfl,q.at _ hf⟩
 exact ⟨z,us,r,⟨_,aA _ rfl,rfl,_,rfl⟩⟩
theorem jz (h:PA X es t):PE X (.List es pos) (Go t):=by
 intro pins s σ H Q I hq
 refine wpAny_List_spliced (thn (h pos pins s σ H _ I hq) λus s1 ⟨xs,H1,I1,r,z,q⟩=>⟨by rw [<- r.length];exact z,?_⟩)
 have hf:H1 s1.heap.objs.size=none:=I1.hok.fresh (av _)
 refine ⟨.ref s1.heap.objs.size,upd H1 s1.heap.objs.size (.lst xs),I1.laid (t':=s1.toks) (λb u e=>ak _ e) (av _) ?_,rfl,q.at _ hf⟩
 exact ⟨z,us,0,r,aA _ rfl⟩
theorem OpR.weak {f:ah->ah->Sem ah}{r r':R2}(h:OpR X f r) (w:∀x y H Q,r' x y H Q->r x y H Q):OpR X f r':=λpins s σ H x y v u Q I rx ry q=>h pins s σ H x y v u Q I rx ry (w _ _ _ _ q)
theorem qP.weak {f:ah}{r r':List V->Hp->VK->Prop}(h:qP X f r) (w:∀x H Q,r' x H Q->r x H Q):qP X f r':=λpins s σ H xs us Q I rx q=>h pins s σ H xs us Q I rx (w _ _ _ q)
theorem SlR.weak {r r':V->Option Int->Option Int->Hp->VK->Prop}(h:SlR X r) (w:∀x lo hi H Q,r' x lo hi H Q->r x lo hi H Q):SlR X r':=λpins s σ H x v vl vu lo hi sl Q I rx hs pl pu q=>h pins s σ H x v vl vu lo hi sl Q I rx hs pl pu (w _ _ _ _ _ q)
noncomputable def WU:R2:=λx y H Q=>∃l b xs zs,x = .ref l/\y = .ref b/\H l=some (.lst xs)/\H b=some (.lst zs)/\xs.length+zs.length<=sizeLine/\New H (.lst (xs++zs)) Q
theorem qX:OpR X (ee .Add) WU:=UJ.weak λ_ _ _ _ ⟨l,b,xs,zs,h1,h2,h3,h4,h5,q⟩=>⟨l,b,xs,zs,h1,h2,h3,h4,h5,q.at⟩
theorem qa (K:ai) (h:X.K=K:=by rfl):qP X (.type "list") (λxs H Q=>∃p ys,xs=[.ref p]/\(SqL K H p ys\/SqT K H p ys)/\New H (.lst ys) Q):=by
 subst h
 exact JN.weak λ_ _ _ ⟨p,ys,h1,h2,q⟩=>⟨p,ys,h1,h2,q.at⟩
theorem Qn (K:ai) (h:X.K=K:=by rfl):SlR X (λx lo hi H Q=>∃a xs,x = .ref a/\SqT K H a xs/\¬(HT.sIx xs.length 0 lo=0/\HT.sIx xs.length xs.length hi=xs.length)/\New H (.tup (XS xs lo hi)) Q):=by
 subst h
 exact WB.weak λ_ _ _ _ _ ⟨a,xs,h1,h2,h3,q⟩=>⟨a,xs,h1,h2,h3,q.at⟩
end
theorem qo {p A B:Prop} [Decidable p] (h1:p->A) (h2:¬p->B):if decide p=true then A else B:=by
 by_cases h:p
 ·rw [if_pos (decide_eq_true h)];exact h1 h
 ·rw [if_neg (by rw [decide_eq_false h];exact ar)];exact h2 h
theorem xb {p A B:Prop} [Decidable p] (h1:¬p->A) (h2:p->B):if (!decide p)=true then A else B:=by
 by_cases h:p
 ·rw [if_neg (by rw [decide_eq_true h];exact ar)];exact h2 h
 ·rw [if_pos (by rw [decide_eq_false h];rfl)];exact h1 h
theorem qG {α:Type}{xs:List α}{i:Int}{v:α}(h0:0<=i) (h:xs[i.toNat]? = some v):atI xs i=some v:=by
 obtain ⟨n,rfl⟩:=Int.eq_ofNat_of_zero_le h0
 exact vm (by simpa using h)
theorem vJ {ns:List Int}{i:Int}(h0:0<=i) (h:i<ns.length):∃z,atI (ns.map V.int) i=some (.int z):=by
 refine ⟨ns[i.toNat]'∅,qG h0 ?_⟩
 rw [aq,ag ∅]
 rfl
theorem yP {ns:List Int}{i:Nat}{y:V}(h:(ns.map V.int)[i]? = some y):∃z,y=V.int z:=by
 rw [aq] at h
 cases e:ns[i]? with
 | none=>rw [e] at h;cases h
 | some z=>rw [e] at h;exact ⟨z,(bg h).symm⟩
noncomputable def Zf:Sp:=λvs H Q _=>∃a b:Int,vs=[.int a,.int b]/\∀r:Int,Q (.int r) H
noncomputable def ZD:Sp:=λvs H Q _=>∃i:Int,vs=[.int i]/\Q (.bl true) H
structure Nb (mg:Str->Option ah):Prop where
 b_len:mg "len" = none
 b_range:mg "range" = none
 b_isinstance:mg "isinstance" = none
 b_int:mg "int" = none
 b_bool:mg "bool" = none
 b_str:mg "str" = none
 b_list:mg "list" = none
 b_tuple:mg "tuple" = none
 b_min:mg "min" = none
 b_max:mg "max" = none
 b_all:mg "all" = none
 b_zip:mg "zip" = none
end L2
end
section
namespace L2
noncomputable def Vq (M:Addr->Prop) (H H':Hp):Prop:=∀c o,H c=some o->¬M c->H' c=some o
theorem Vq.of_same {M:Addr->Prop}{H H':Hp}(x:jq H H'):Vq M H H':=λc o h _=>x c o h
section
variable {X:Cx}
end
end L2
end
section
namespace L2
noncomputable def tCut (t u:TS):TS:=λD σ H=>∃P:St->Hp->Prop,t { D with nx:=P } σ H/\∀σ' H',P σ' H'->u D σ' H'
theorem qW {X:Cx}{st:Stmt}{vK:List Stmt}{t u:TS}(h1:PS X st t) (h2:PSs X vK u):PSs X (st::vK) (tCut t u):=by
 intro pins s σ H D I h
 obtain ⟨P,h,hP⟩:=h
 refine lu (thn (h1 pins s σ H { D with nx:=P } I h) λf s1 q=>?_)
 cases f with
 | next =>
  obtain ⟨σ',H',I',q⟩:=q
  exact h2 pins s1 σ' H' D I' (hP _ _ q)
 | ret v=>exact q
 | brk=>exact q
 | cont=>exact q
section
variable {X:Cx}
noncomputable def Wv:R2:=λx y H Q=>∃a b xs ys,x = .ref a/\y = .ref b/\H a=some (.tup xs)/\H b=some (.tup ys)/\xs.length+ys.length<=sizeLine /\
 ∀p H',jq H H'->H' p=some (.tup (xs++ys))->Q (.ref p) H'
theorem ud:OpR X (ee .Add) Wv:=by
 intro pins s σ H x y v u Q I rx ry h
 obtain ⟨a,b,xs,ys,rfl,rfl,ha,hb,hz,q⟩:=h
 by_cases hx:xs=[]
 ·subst hx
  cases rx
  cases ry
  obtain ⟨its,r1,p1,_⟩:=I.tuple (SqT.of ha)
  obtain ⟨its2,r2,p2,_⟩:=I.tuple (SqT.of hb)
  have hi:its=[]:=r1.nil_iff.mpr rfl
  subst hi
  obtain ⟨⟨cls,dd,data,sl⟩,ho,hc,n,hd⟩:=id p1
  obtain ⟨⟨cls2,dd2,data2,sl2⟩,ho2,hc2,n2,hd2⟩:=id p2
  simp only at hc hd hc2 hd2
  subst hc hd hc2 hd2
  exact oz ⟨_,ho,rfl⟩ ⟨_,ho2,rfl⟩ lA ni fK fv (fc _ _)
   (tuple_addW0 a b #[] its2.toArray n n2 dd dd2 sl sl2 (by simp)) ⟨ho,ho2,⟨.ref b,H,I,rfl,q b H (jq.refl H) hb⟩⟩
 ·refine Uq pins s σ H (.ref a) (.ref b) v u Q I rx ry ⟨a,b,xs,ys,rfl,rfl,SqT.of ha,SqT.of hb,hx,hz,λz=>?_,λ_ p n=>q p _ (jq.new n) j8⟩
  subst z
  exact q a H (jq.refl H) (by rw [aP];exact ha)
end
noncomputable def jC (L:Addr) (H:Hp) (b:Addr):Prop:=∃(ns:List Int) (a r c d:Int),H b=some (.lst [.ref L,.int a,.int r,.int c,.int d])/\L≠b/\H L=some (.lst (ns.map V.int))/\0<=a
theorem jC.same {L:Addr}{H H':Hp}{b:Addr}(B:jC L H b) (s:jq H H'):jC L H' b:=by
 obtain ⟨ns,a,r,c,d,h1,h2,h3,h4⟩:=B
 exact ⟨ns,a,r,c,d,s _ _ h1,h2,s _ _ h3,h4⟩
theorem jC.ext {L:Addr}{H H':Hp}{b acc:Addr}(B:jC L H b) (n:acc≠b) (m:acc≠L) (e:Ext acc H H'):jC L H' b:=by
 obtain ⟨ns,a,r,c,d,h1,h2,h3,h4⟩:=B
 exact ⟨ns,a,r,c,d,e _ _ h1 n.symm,h2,e _ _ h3 m.symm,h4⟩
theorem jC.put {L:Addr}{H:Hp}{b acc:Addr}{o:HO}(B:jC L H b) (n:acc≠b) (m:acc≠L):jC L (upd H acc o) b:=B.ext n m Ext.put
theorem jC.ne {L:Addr}{H:Hp}{b p:Addr}(B:jC L H b) (n:H p=none):p≠b:=by
 obtain ⟨ns,a,r,c,d,h1,h2,h3,h4⟩:=B
 exact (j4 h1 n).symm
theorem jC.neL {L:Addr}{H:Hp}{b p:Addr}(B:jC L H b) (n:H p=none):p≠L:=by
 obtain ⟨ns,a,r,c,d,h1,h2,h3,h4⟩:=B
 exact (j4 h3 n).symm
theorem jC.ne_tup {L:Addr}{H:Hp}{b p:Addr}{xs:List V}(B:jC L H b) (n:H p=some (.tup xs)):p≠b:=by
 obtain ⟨ns,a,r,c,d,h1,h2,h3,h4⟩:=B
 exact jp n h1 (by intro z;cases z)
noncomputable def qU:Sp:=λvs H Q _=>∃(L b:Addr) (n:Int),vs=[.ref b,.int n]/\jC L H b/\(0<n/\n<2 ^ 200)/\∀(v:Int) (H':Hp),0<=v->v<n->jC L H' b->Ext b H H'->Q (.int v) H'
noncomputable def YV (K:ai):Sp:=λvs H Q _=>∃(a:Addr) (ns:List Int),vs=[.ref a]/\SqL K H a (ns.map V.int)/\∀(L b:Addr) (H':Hp),H b=none->jC L H' b->jq H H'->Q (.ref b) H'
noncomputable abbrev T3:=Int×Int×Int
noncomputable abbrev uT (t:T3):HO:=.tup [.int t.1,.int t.2.1,.int t.2.2]
noncomputable def UL (H:Hp) (v:V) (t:T3):Prop:=∃p,v = .ref p/\H p=some (uT t)
noncomputable def jQ (H:Hp) (vs:List V) (ts:List T3):Prop:=dJ (UL H) vs ts
theorem jQ.length {H:Hp}{vs:List V}{ts:List T3}(r:jQ H vs ts):vs.length=ts.length:=aX r
theorem jQ.get {H:Hp}:∀{vs:List V}{ts:List T3}{i:Nat}{v:V},jQ H vs ts->vs[i]? = some v->∃t,ts[i]? = some t/\UL H v t
 | _,_,_,_,.nil,e=>by simp at e
 | _,_,0,_,.cons r _,e=>by simp at e;subst e;exact ⟨_,rfl,r⟩
 | _,_,i+1,v,.cons _ t,e=>by
  obtain ⟨d,h1,h2⟩:=jQ.get (i:=i) (v:=v) t (by simpa using e)
  exact ⟨d,by simpa using h1,h2⟩
theorem jQ.imp {H H':Hp}{vs:List V}{ts:List T3}(r:jQ H vs ts) (h:∀p t,H p=some (uT t)->H' p=some (uT t)):jQ H' vs ts :=
 Paired.mapP r λ_ t ⟨p,e,q⟩=>⟨p,e,h p t q⟩
theorem jQ.snoc {H:Hp}{vs:List V}{ts:List T3}{v:V}{t:T3}(r:jQ H vs ts) (h:UL H v t):jQ H (vs++[v]) (ts++[t]):=dh r h
theorem qE {α β:Type}(f:α->β) (l:List α) (i:Nat) (v:α) (h:l[i]? = some v):(l.take (i+1)).map f=(l.take i).map f++[f v]:=by
 rw [bE,h,aC]
 rfl
end L2
end
section
namespace L2
open PySem PySem.W PyProof.Rows
noncomputable def qZ {α:Type}(lt:Nat->Nat->Bool) (n:Nat):KasT α->(α->Prop)->Prop
 | .ret a,G=>G a
 | .ask i j k,G=>i<n/\j<n/\qZ lt n (k (lt i j)) G
theorem qZ.bind {α β:Type}{lt:Nat->Nat->Bool}{n:Nat}{f:α->KasT β}{G:β->Prop}:∀{t:KasT α},qZ lt n t (λa=>qZ lt n (f a) G)->qZ lt n (t.bind f) G
 | .ret _,h=>h
 | .ask _ _ k,h=>⟨h.1,h.2.1,qZ.bind (t:=k _) h.2.2⟩
theorem qZ.wp {α:Type}{lt:Nat->Nat->Bool}{n:Nat}{cmp:Nat->Nat->(Bool->Shared->Prop)->Shared->Prop}{I:Shared->Prop}(hc:∀i j C s,i<n->j<n->I s->(∀s',I s'->C (lt i j) s')->cmp i j C s)
  {G:α->Prop} {Q:α->Shared->Prop} (hq:∀a s,G a->I s->Q a s):∀{t:KasT α} {s:Shared},qZ lt n t G->I s->t.kasWp cmp Q s
 | .ret a,s,h,hs=>hq a s h hs
 | .ask i j k,s,h,hs=>hc i j _ s h.1 h.2.1 hs λs' hs'=>qZ.wp hc hq (t:=k _) h.2.2 hs'
section
variable {O:KeyOrd}{key:Nat->O.α}{n:Nat}{p:Array Nat}
noncomputable abbrev ltK (O:KeyOrd) (key:Nat->O.α):Nat->Nat->Bool:=λi j=>O.blt (key i) (key j)
noncomputable abbrev kp (key:Nat->O.α) (p:Array Nat) (i:Nat):O.α:=key (p.getD i 0)
noncomputable def zu (key:Nat->O.α) (p:Array Nat) (k:Nat):Prop:=∀i j,i<=j->j<k->O.kle (kp key p i) (kp key p j)
noncomputable def wC (key:Nat->O.α) (p:Array Nat) (k:Nat):Prop:=∀i j,i<=j->j<k->O.kle (kp key p j) (kp key p i)
noncomputable def qu (n:Nat) (p:Array Nat):Prop:=p.Perm (aV n).toArray
theorem qu.size (h:qu n p):p.size=n:=by have:=h.size_eq;simpa using this
theorem qu.lt (h:qu n p) (hn:0<n) (i:Nat):p.getD i 0<n:=by
 by_cases hi:i<p.size
 ·have e:p.getD i 0=p[i]:=by simp [nR,hi]
  rw [e]
  have hm:p[i]∈(aV n).toArray.toList:=(Array.perm_iff_toList_perm.mp h).mem_iff.mp (by simp)
  simpa using hm
 ·have e:p.getD i 0=0:=by simp [nR,hi]
  rw [e];exact hn
theorem zo {p q:Array Nat}{i j:Nat}(h:p[i]? = q[j]?):p.getD i 0=q.getD j 0:=by
 rw [iB,iB,h]
theorem gf {src d:Nat}(hs:src<p.size) (hd:d<=src) (k:Nat) :
  kp (O:=O) key (bubble p src d) k=if k=src-d then kp key p src else if src-d<k/\k<=src then kp key p (k-1) else kp key p k:=by
 have e:=getElem?_bubble hs d hd k
 unfold kp
 by_cases h1:k=src-d
 ·rw [if_pos h1] at e ⊢;rw [zo e]
 ·rw [if_neg h1] at e ⊢
  by_cases h2:src-d<k/\k<=src
  ·rw [if_pos h2] at e ⊢;rw [zo e]
  ·rw [if_neg h2] at e ⊢;rw [zo e]
theorem Xf {i j:Nat}(hj:j<=p.size) (k:Nat):kp (O:=O) key (pW p i j) k=if i<=k/\k<j then kp key p (i+j-1-k) else kp key p k:=by
 have e:=getElem?_mirror_all (i:=i) hj k
 unfold kp pW
 by_cases h1:i<=k/\k<j
 ·rw [if_pos h1] at e ⊢;rw [zo e]
 ·rw [if_neg h1] at e ⊢;rw [zo e]
theorem xw {i j:Nat}(hj:j<=p.size) (heq:∀k,i<=k->k<j->kp (O:=O) key p k=kp key p (j-1)) (k:Nat):kp (O:=O) key (pW p i j) k=kp key p k:=by
 rw [Xf hj]
 split
 ·rw [heq _ ∅ ∅,heq k ∅ ∅]
 ·rfl
theorem qu.rev (h:qu n p) (i j:Nat):qu n (pW p i j):=(mirror_perm _ _ _ _).trans h
theorem qu.bub (h:qu n p) (i j:Nat):qu n (bubble p i j):=(bubble_perm _ _ _).trans h
theorem Jh (hP:qu n p) (hn:0<n) {G:Nat->Prop}:∀(f a:Nat),1<=a->zu (O:=O) key p a ->
  (∀m,a<=m->m<=a+f->zu (O:=O) key p m->(m=a+f\/O.klt (kp key p m) (kp key p (m-1)))->G m)->qZ (ltK O key) n (kas_asc p f a) G
 | 0,a,_,hs,h=>h a (av _) (av _) hs (.inl rfl)
 | f+1,a,h1,hs,h=>by
  refine ⟨hP.lt hn _,hP.lt hn _,?_⟩
  show qZ _ _ (if O.blt (kp key p a) (kp key p (a-1))=true then _ else _) _
  cases hless:O.blt (kp key p a) (kp key p (a-1)) with
  | true=>rw [if_pos rfl];exact h a (av _) ∅ hs (.inr hless)
  | false =>
   rw [if_neg ar]
   refine Jh hP hn f (a+1) ∅ (λi j hij hj=>?_) λm hm1 hm2 hsm ho=>h m ∅ ∅ hsm (ho.imp (λz=>∅) id)
   by_cases hja:j<a
   ·exact hs i j hij hja
   ·have hj':j=a:=∅
    subst hj'
    by_cases hi':i=j
    ·subst hi';exact d8 _
    ·exact fW (hs i (j-1) ∅ ∅) hless
theorem gg (hP:qu n p) {m nrem:Nat}{G:Nat×Array Nat->Prop}(h1:1<=m) (hm:m<=nrem) (hn:nrem<=n) (hs:wC (O:=O) key p m)
  (h:∀k p',qu n p'->1<=k->k<=nrem->zu (O:=O) key p' k->G (k,p')):qZ (ltK O key) n (sv m nrem p) G:=by
 have hsz:m<=p.size:=by rw [hP.size];omega
 refine qZ.bind (Jh (hP.rev _ _) ∅ _ m h1 (λi j hij hj=>?_) λk hk1 hk2 hk3 _=>h k _ (hP.rev _ _) ∅ ∅ hk3)
 rw [Xf hsz,Xf hsz,if_pos ∅,if_pos ∅]
 exact hs _ _ ∅ ∅
theorem ul {nrem:Nat}(hn:nrem<=n) {G:Array Nat×Nat×Nat->Prop}:∀(f:Nat) (p:Array Nat) (x q:Nat),qu n p->1<=x->x+f=nrem->wC (O:=O) key p x->q+1<=x ->
  (∀i,x-(q+1)<=i->i<x->kp (O:=O) key p i=kp key p (x-1)) ->
  (∀p' m q',qu n p'->x<=m->m<=nrem->wC (O:=O) key p' m->q'+1<=m->(∀i,m-(q'+1)<=i->i<m->kp (O:=O) key p' i=kp key p' (m-1))->G (p',m,q')) ->
  qZ (ltK O key) n (kas_desc f p x q) G
 | 0,p,x,q,hP,h1,hx,hs,hq,he,h=>h p x q hP (av _) ∅ hs hq he
 | f+1,p,x,q,hP,h1,hx,hs,hq,he,h=>by
  have hsz:x<=p.size:=by rw [hP.size];omega
  refine ⟨hP.lt ∅ _,hP.lt ∅ _,?_⟩
  show qZ _ _ (if O.blt (kp key p x) (kp key p (x-1))=true then _ else _) _
  cases hless:O.blt (kp key p x) (kp key p (x-1)) with
  | true =>
   rw [if_pos rfl]
   have step1:∀p':Array Nat,(∀k,kp (O:=O) key p' k=kp key p k)->wC (O:=O) key p' (x+1):=by
    intro p' hk i j hij hj
    rw [hk,hk]
    by_cases hjx:j<x
    ·exact hs i j hij hjx
    ·have hj':j=x:=∅
     subst hj'
     by_cases hi':i=j
     ·subst hi';exact d8 _
     ·exact fW (fN hless) (hs i (j-1) ∅ ∅)
   by_cases hneq:q > 0
   ·rw [if_pos hneq]
    exact ul hn f _ (x+1) 0 (hP.rev _ _) ∅ ∅ (step1 _ (xw hsz he)) ∅ (λi h1 h2=>by congr 1;omega) λp' m q' a b=>h p' m q' a ∅
   ·rw [if_neg hneq]
    exact ul hn f _ (x+1) 0 hP ∅ ∅ (step1 _ λ_=>rfl) ∅ (λi h1 h2=>by congr 1;omega) λp' m q' a b=>h p' m q' a ∅
  | false =>
   rw [if_neg ar]
   refine ⟨hP.lt ∅ _,hP.lt ∅ _,?_⟩
   show qZ _ _ (if O.blt (kp key p (x-1)) (kp key p x)=true then _ else _) _
   cases hlarger:O.blt (kp key p (x-1)) (kp key p x) with
   | true=>rw [if_pos rfl];exact h p x q hP (av _) ∅ hs hq he
   | false =>
    rw [if_neg ar]
    have heqx:kp (O:=O) key p x=kp key p (x-1):=iu hlarger hless
    refine ul hn f p (x+1) (q+1) hP ∅ ∅ (λi j hij hj=>?_) ∅ (λi h1 h2=>?_) λp' m q' a b=>h p' m q' a ∅
    ·by_cases hjx:j<x
     ·exact hs i j hij hjx
     ·have hj':j=x:=∅
      subst hj'
      by_cases hi':i=j
      ·subst hi';exact d8 _
      ·rw [heqx];exact hs i (j-1) ∅ ∅
    ·rw [show x+1-1=x by omega]
     by_cases hix:i=x
     ·subst hix;rfl
     ·rw [heqx];exact he i ∅ ∅
theorem ug (hP:qu n p) {m nrem:Nat}{G:Nat×Array Nat->Prop}(hm:m+1<=nrem) (hn:nrem<=n) (hs:wC (O:=O) key p (m+1))
  (h:∀k p',qu n p'->1<=k->k<=nrem->zu (O:=O) key p' k->G (k,p')):qZ (ltK O key) n (kas_descPart m nrem p) G:=by
 refine qZ.bind (ul hn _ p (m+1) 0 hP ∅ ∅ hs ∅ (λi h1 h2=>by congr 1;omega) λp' k q hP' hk1 hk2 hs' hq he=>?_)
 have hsz:k<=p'.size:=by rw [hP'.size];omega
 show qZ _ _ (if q > 0 then sv k nrem (pW p' (k-(q+1)) k) else sv k nrem p') _
 by_cases hneq:q > 0
 ·rw [if_pos hneq]
  refine gg (hP'.rev _ _) ∅ hk2 hn (λi j hij hj=>?_) h
  rw [xw hsz he,xw hsz he]
  exact hs' i j hij hj
 ·rw [if_neg hneq]
  exact gg hP' ∅ hk2 hn hs' h
theorem ZU (hP:qu n p) (hn:0<n) {G:Nat×Array Nat->Prop}(h:∀k p',qu n p'->1<=k->k<=n->zu (O:=O) key p' k->G (k,p')):qZ (ltK O key) n (kas_count n p) G:=by
 refine qZ.bind (Jh hP hn _ 1 (av 1) (λi j hij hj=>by have:i=j:=∅;subst this;exact d8 _) λm hm1 hm2 hsm hor=>?_)
 by_cases hnn:m=n
 ·rw [if_pos (by simpa using hnn)]
  exact h m p hP hm1 ∅ hsm
 ·rw [if_neg (by simpa using hnn)]
  have hlt:O.klt (kp key p m) (kp key p (m-1)):=by
   rcases hor with z | z
   ·omega
   ·exact z
  by_cases hgt:m > 1
  ·rw [if_pos hgt]
   refine ⟨hP.lt hn _,hP.lt hn _,?_⟩
   show qZ _ _ (if O.blt (kp key p 0) (kp key p (m-1))=true then _ else _) _
   cases hrose:O.blt (kp key p 0) (kp key p (m-1)) with
   | true=>rw [if_pos rfl];exact h m p hP hm1 ∅ hsm
   | false =>
    rw [if_neg ar]
    have hsz:m<=p.size:=by rw [hP.size];omega
    have hall:∀k,0<=k->k<m->kp (O:=O) key p k=kp key p (m-1):=by
     intro k _ hk
     have a1:=hsm 0 k ∅ hk
     have a2:=hsm k (m-1) ∅ ∅
     exact iu a2 (fW hrose a1)
    refine ug (hP.rev _ _) ∅ (av _) (λi j hij hj=>?_) h
    rw [xw hsz hall,xw hsz hall]
    by_cases hjn:j<m
    ·rw [hall i ∅ ∅,hall j ∅ hjn];exact d8 _
    ·have hj':j=m:=∅
     subst hj'
     by_cases hi':i=j
     ·subst hi';exact d8 _
     ·rw [hall i ∅ ∅];exact fN hlt
  ·rw [if_neg hgt]
   have hm1':m=1:=∅
   subst hm1'
   refine ug hP ∅ (av _) (λi j hij hj=>?_) h
   by_cases hi':i=j
   ·subst hi';exact d8 _
   ·have hi0:i=0:=∅
    have hj1:j=1:=∅
    subst hi0;subst hj1
    exact fN hlt
theorem uF (hP:qu n p) (hn:0<n) {k:Nat}(hs:zu (O:=O) key p k) {G:Nat->Prop}:∀(f l r:Nat),l<=r->r<=k->r-l<=f ->
  (∀i,i<l->O.kle (kp key p i) (kp key p k))->(∀i,r<=i->i<k->O.klt (kp key p k) (kp key p i)) ->
  (∀l,l<=k->(∀i,i<l->O.kle (kp key p i) (kp key p k))->(∀i,l<=i->i<k->O.klt (kp key p k) (kp key p i))->G l)->qZ (ltK O key) n (kas_place p k f l r) G
 | 0,l,r,hlr,hrk,hm,hlo,hhi,h=>by
  have:l=r:=∅
  subst this
  exact h l hrk hlo hhi
 | f+1,l,r,hlr,hrk,hm,hlo,hhi,h=>by
  unfold kas_place
  by_cases hge:l>=r
  ·rw [if_pos hge]
   have:l=r:=∅
   subst this
   exact h l hrk hlo hhi
  ·rw [if_neg hge]
   refine ⟨hP.lt hn _,hP.lt hn _,?_⟩
   show qZ _ _ (if O.blt (kp key p k) (kp key p ((l+r) / 2))=true then _ else _) _
   cases hless:O.blt (kp key p k) (kp key p ((l+r) / 2)) with
   | true =>
    rw [if_pos rfl]
    exact uF hP hn hs f l _ ∅ ∅ ∅ hlo (λi h1 h2=>KeyOrd.klt_of_klt_of_kle hless (hs _ _ h1 h2)) h
   | false =>
    rw [if_neg ar]
    exact uF hP hn hs f _ r ∅ ∅ ∅ (λi h1=>fW (hs i ((l+r) / 2) ∅ ∅) (show O.kle _ _ from hless)) hhi h
theorem Z9 (hn:0<n) {G:Array Nat->Prop}:∀(f:Nat) (p:Array Nat) (k:Nat),qu n p->k+f=n->zu (O:=O) key p k ->
  (∀p',qu n p'->zu (O:=O) key p' n->G p')->qZ (ltK O key) n (kas_bin f p k) G
 | 0,p,k,hP,hk,hs,h=>h p hP (by rw [<- hk];exact hs)
 | f+1,p,k,hP,hk,hs,h=>by
  refine qZ.bind (uF hP hn hs k 0 k (aO _) (av _) ∅ (λi hi=>∅) (λi h1 h2=>∅) λl hlk hlo hhi=>?_)
  refine Z9 hn f _ (k+1) (hP.bub _ _) ∅ (λi j hij hj=>?_) h
  have hks:k<p.size:=by rw [hP.size];omega
  rw [gf hks ∅,gf hks ∅,show k-(k-l)=l by omega]
  repeat' split
  all_goals first
   | (exfalso;omega)
   | exact d8 _
   | exact hlo _ ∅
   | exact fN (hhi _ ∅ ∅)
   | exact hs _ _ ∅ ∅
theorem kH (hn:0<n) {G:Array Nat->Prop}(h:∀p',qu n p'->zu (O:=O) key p' n->G p'):qZ (ltK O key) n (sN n) G:=by
 refine qZ.bind (ZU (Array.Perm.refl _) hn λk p' hP h1 hk hs=>?_)
 show qZ _ _ (if k<n then kas_bin (n-max k 1) p' (max k 1) else .ret p') _
 by_cases hkn:k<n
 ·rw [if_pos hkn,show max k 1=k by omega]
  exact Z9 hn _ p' k hP ∅ hs h
 ·rw [if_neg hkn]
  have e:k=n:=∅
  subst e
  exact h p' hP hs
end
noncomputable def zE:List Int->List Int->Bool
 | [],[]=>false
 | [],_::_=>true
 | _::_,[]=>false
 | a::x,b::y=>if a=b then zE x y else decide (a<b)
theorem w5:∀a,zE a a=false
 | []=>rfl
 | a::x=>by unfold zE;rw [if_pos rfl];exact w5 x
theorem kg:∀a b c,zE a b=true->zE b c=true->zE a c=true
 | [],[],_,h,_=>by cases h
 | [],_::_,[],_,h=>by cases h
 | [],_::_,_::_,_,_=>rfl
 | _::_,[],_,h,_=>by cases h
 | _::_,_::_,[],_,h=>by cases h
 | a::x,b::y,c::z,h1,h2=>by
  unfold zE at h1 h2 ⊢
  by_cases e1:a=b
  ·subst e1
   rw [if_pos rfl] at h1
   by_cases e2:a=c
   ·rw [if_pos e2] at h2 ⊢;exact kg x y z h1 h2
   ·rw [if_neg e2] at h2 ⊢;exact h2
  ·rw [if_neg e1] at h1
   have h1':=of_decide_eq_true h1
   by_cases e2:b=c
   ·subst e2;rw [if_neg e1];exact h1
   ·rw [if_neg e2] at h2
    have h2':=of_decide_eq_true h2
    rw [if_neg ∅]
    exact decide_eq_true ∅
theorem Q7:∀a b c,zE a c=true->zE a b=true\/zE b c=true
 | [],[],[],h=>by cases h
 | [],[],_::_,_=>.inr rfl
 | [],_::_,_,_=>.inl rfl
 | _::_,_,[],h=>by cases h
 | _::_,[],_::_,_=>.inr rfl
 | a::x,b::y,c::z,h=>by
  unfold zE at h ⊢
  by_cases e1:a=b
  ·subst e1
   rw [if_pos rfl]
   by_cases e2:a=c
   ·rw [if_pos e2] at h ⊢;exact Q7 x y z h
   ·rw [if_neg e2] at h ⊢;exact .inr h
  ·rw [if_neg e1]
   by_cases e2:b=c
   ·subst e2;rw [if_neg e1] at h;exact .inl h
   ·rw [if_neg e2]
    by_cases e3:a=c
    ·subst e3
     by_cases hab:a<b
     ·exact .inl (decide_eq_true hab)
     ·exact .inr (decide_eq_true ∅)
    ·rw [if_neg e3] at h
     have h':=of_decide_eq_true h
     by_cases hab:a<b
     ·exact .inl (decide_eq_true hab)
     ·exact .inr (decide_eq_true ∅)
theorem ke:∀a b,zE a b=false->zE b a=false->a=b
 | [],[],_,_=>rfl
 | [],_::_,h,_=>by cases h
 | _::_,[],_,h=>by cases h
 | a::x,b::y,h1,h2=>by
  unfold zE at h1 h2
  by_cases e:a=b
  ·subst e
   rw [if_pos rfl] at h1 h2
   rw [ke x y h1 h2]
  ·rw [if_neg e] at h1
   rw [if_neg (λz=>e z.symm)] at h2
   have:=of_decide_eq_false h1
   have:=of_decide_eq_false h2
   omega
noncomputable def wq:KeyOrd:=⟨List Int,zE,w5,kg,Q7,ke⟩
noncomputable def VQ:KeyOrd:=⟨Int,λa b=>decide (a<b),λa=>by simp,λa b c h1 h2=>by
  have:=of_decide_eq_true h1;have:=of_decide_eq_true h2;exact decide_eq_true ∅,λa b c h=>by
  have:=of_decide_eq_true h
  by_cases hab:a<b
  ·exact .inl (decide_eq_true hab)
  ·exact .inr (decide_eq_true ∅),λa b h1 h2=>by
  have:=of_decide_eq_false h1;have:=of_decide_eq_false h2;omega⟩
end L2
end
section
namespace L2
open PySem.W
open PySem.AutoSeq1 (wpAny_loadPart')
open PySem.MeetsSeq PySem.MeetsSeq2 PySem.MeetsSeq3 PySem.SeqRoads2
theorem Jk {its:List ah}{xs:List Int}(h:df its xs) {i:Nat}(hi:i<its.length):∃t,its[i]? = some (.int (xs[i]'(by have:=h.length;omega)) t):=by
 have hx:i<xs.length:=by have:=h.length;omega
 obtain ⟨u,e1,t,e2⟩:=jI.get (uP h) (i:=i) (x:=V.int xs[i]) (by rw [aq,ag hx];rfl)
 exact ⟨t,by rw [e1,e2]⟩
theorem ZX (l b:Addr) (items items2:List ah) (n n2:Nat) (dd dd2:Option Addr) (sl sl2:Array (Option ah)) {xs ys:List Int}(hx:df items xs) (hy:df items2 ys) (k:Nat) :
  ∀i:Nat,items.length-i=k->i<=items.length->i<=items2.length->Meets (dS.«list.__eq__.loop» ⟨[.ref l,.ref b,c6 i,c6 0],[]⟩)
   (λA R s=>s.heap.get? l=some { cls:=.type "list",dict:=dd,data:=.seq items.toArray n,slots:=sl }/\s.heap.get? b=some { cls:=.type "list",dict:=dd2,data:=.seq items2.toArray n2,slots:=sl2 } /\
    R (.ok (.ret (.bool (zE (xs.drop i) (ys.drop i))))) s):=by
 have l1:=hx.length
 have l2:=hy.length
 induction k with
 | zero =>
  intro i hk hi hi2 prog w A R s h
  obtain ⟨hp,g,d,tk,os⟩:=s;obtain ⟨hl,hb,h⟩:=h
  wp_walk using bV hl,bV hb
  have e1:items.toArray[((i:Nat):Int).toNat]? = none:=by simp;omega
  have hd:xs.drop i=[]:=by simp;omega
  rw [hd] at h
  rw [e1]
  wp_walk using bV hl,bV hb
  show R (.ok (.ret (.bool (decide (items.toArray.size<items2.toArray.size))))) _
  have e2:decide (items.toArray.size<items2.toArray.size)=zE [] (ys.drop i):=by
   by_cases hlt:i<ys.length
   ·rw [dB hlt]
    exact decide_eq_true (by simp;omega)
   ·rw [lS ∅]
    exact decide_eq_false (by simp;omega)
  rw [e2]
  exact h
 | succ k ih =>
  intro i hk hi hi2 prog w A R s h
  obtain ⟨hp,g,d,tk,os⟩:=s;obtain ⟨hl,hb,h⟩:=h
  have hlt:i<items.length:=∅
  obtain ⟨t,e1'⟩:=Jk hx hlt
  have e1:items.toArray[((i:Nat):Int).toNat]? = some (.int (xs[i]'∅) t):=by simpa using e1'
  wp_walk using bV hl,bV hb
  rw [e1]
  by_cases hlt2:i<items2.length
  ·obtain ⟨u,e2'⟩:=Jk hy hlt2
   have e2:items2.toArray[((i:Nat):Int).toNat]? = some (.int (ys[i]'∅) u):=by simpa using e2'
   rw [e2]
   rw [dB (show i<xs.length by omega),dB (show i<ys.length by omega)] at h
   unfold zE at h
   refine aa (lr ?_)
   have hc:((i:Int)+1)=((i+1:Nat):Int):=by push_cast;rfl
   by_cases e:xs[i]'∅=ys[i]'∅
   ·rw [if_pos e] at h
    rw [beq_iff_eq.mpr e]
    wp_walk
    rw [hc]
    exact ⟨sf plain_eq_loop _,lZ entry_eq_loop (by
     rw [my plain_eq_loop _]
     exact ih (i+1) ∅ ∅ ∅ prog w A R _ ⟨hl,hb,h⟩)⟩
   ·rw [if_neg e] at h
    rw [beq_eq_false_iff_ne.mpr e]
    wp_walk using bV hl,bV hb
    rw [e1,e2]
    refine aa (show ay (aD prog w) _ (richCompare .Lt _ _) _ _ _ from lt_int ?_)
    exact wpAny_pure h
  ·have e2:items2.toArray[((i:Nat):Int).toNat]? = none:=by simp;omega
   rw [e2]
   rw [dB (show i<xs.length by omega),lS (show ys.length<=i by omega)] at h
   wp_walk using bV hl,bV hb
   show R (.ok (.ret (.bool (decide (items.toArray.size<items2.toArray.size))))) _
   rw [decide_eq_false (by simp;omega)]
   exact h
theorem ZJ (l b:Addr) (items items2:List ah) (n n2:Nat) (dd dd2:Option Addr) (sl sl2:Array (Option ah)) {xs ys:List Int}(hx:df items xs) (hy:df items2 ys) :
  Meets (dS.«list.__lt__» ⟨[.ref l,.ref b],[]⟩)
   (λA R s=>s.heap.get? l=some { cls:=.type "list",dict:=dd,data:=.seq items.toArray n,slots:=sl }/\s.heap.get? b=some { cls:=.type "list",dict:=dd2,data:=.seq items2.toArray n2,slots:=sl2 } /\
    R (.ok (.ret (.bool (zE xs ys)))) s):=by
 intro prog w A R s h
 obtain ⟨hp,g,d,tk,os⟩:=s;obtain ⟨hl,hb,h⟩:=h
 have f3:=AutoSeq1.sub_list_list
 wp_walk using bV hl,bV hb
 exact ⟨sf plain_eq_loop _,lZ entry_eq_loop (by
  rw [my plain_eq_loop _]
  exact ZX l b items items2 n n2 dd dd2 sl sl2 hx hy _ 0 rfl (aO _) (aO _) prog w A R _ ⟨hl,hb,by simpa using h⟩)⟩
section
variable {prog:Program}{w:aU}{A:b9}{E:ah->Shared->Prop}{s:Shared}
theorem Qo {l b:Addr}{items items2:List ah}{xs ys:List Int}{n n2:Nat}{dd dd2:Option Addr}{sl sl2:Array (Option ah)}{Q:Bool->Shared->Prop}(hu:A.units<cLine)
  (hl:s.heap.get? l=some { cls:=.type "list",dict:=dd,data:=.seq items.toArray n,slots:=sl }) (hb:s.heap.get? b=some { cls:=.type "list",dict:=dd2,data:=.seq items2.toArray n2,slots:=sl2 })
  (hx:df items xs) (hy:df items2 ys) (h:Q (zE xs ys) s):ay (aD prog w) A (oneLt' true (.ref l) (.ref b)) Q E s:=by
 rw [oneLt'_eq]
 simp only [if_true]
 refine aa (wpAny_cRoomFor hu ?_)
 refine aa (wpAny_callSpecialIfBound?_slot ⟨_,hl,rfl⟩ mz (rA mz ⟨_,hl,rfl⟩ PySem.F.entry_list_lt (PySem.F.args_list_lt_2 _ _) (ZJ l b items items2 n n2 dd dd2 sl sl2 hx hy) ⟨hl,hb,?_⟩))
 exact c3 h
theorem Xh {x y:Addr}{ox oy:Obj}{items items2:List ah}{xs ys:List Int}{n k:Nat}{Q:Bool->Shared->Prop}(hx:s.heap.get? x=some ox) (dx:ox.data = .seq items.toArray n) (hy:s.heap.get? y=some oy) (dy:oy.data = .seq items2.toArray k)
  (ix:df items xs) (iy:df items2 ys) (h:Q (zE xs ys) s):ay (aD prog w) A (keyLt' (tuples' true) (.ref x) (.ref y)) Q E s:=by
 refine kat_lt hx dx hy dy ?_
 have go:∀(items items2:List ah) (xs ys:List Int) (i:Nat) (fin:Bool),df items xs->df items2 ys->(∀m:Nat,xs.length=m+items.length-items.length->True) ->
   fin=decide (items.length<items2.length)->Q (zE xs ys) s->KatLex prog w A true fin Q (items.zip items2) i s:=by
  intro items items2 xs ys i fin a b
  induction a generalizing items2 ys i with
  | nil =>
   intro _ hf hq
   cases b with
   | nil=>subst hf;exact hq
   | cons m u r=>subst hf;exact hq
  | cons m u r ih =>
   intro _ hf hq
   cases b with
   | nil=>subst hf;exact hq
   | cons m' u' r' =>
    refine kat_cons (lr ?_)
    unfold zE at hq
    by_cases e:m=m'
    ·rw [beq_iff_eq.mpr e]
     rw [if_pos e] at hq
     refine kat_yes (ih _ _ _ r' (λ_ _=>trivial) ?_ hq)
     rw [hf]
     simp
    ·rw [beq_eq_false_iff_ne.mpr e]
     rw [if_neg e] at hq
     refine kat_no ?_
     cases hb:(true && i == 0) with
     | true=>exact oneLt_int hq
     | false=>exact kat_one _ _ (lt_int hq)
 have e:(items.toArray.toList.zip items2.toArray.toList)=items.zip items2:=by simp
 rw [e]
 exact go items items2 xs ys 0 _ ix iy (λ_ _=>trivial) (by simp) h
end
end L2
end
section
namespace L2
open PySem.W
section
variable {prog:Program}{w:aU}{A:b9}{E:ah->Shared->Prop}{s:Shared}
theorem vZ (its:List ah):(its.toArray.zip its.toArray).map (·.2)=its.toArray:=by
 apply Array.toList_inj.mp
 rw [oZ,ksk_zip]
 show (its.zip its).map lB=its
 rw [lC]
 exact av _
theorem vO (its:List ah):((aV its.length).map λi=>its.getD i aS)=its:=by
 apply lE
 ·simp
 ·intro i h1 h2
  simp at h1
  simp [h1]
theorem XM {l:Addr}{its:List ah}{κ:rJ}{lt:Nat->Nat->Bool}{G:List Nat->Prop}{Q:ah->Shared->Prop}(hl:s.heap.IsList l its.toArray) (h64:its.length<64)
  (hk:2<=its.length->∀h',(∀b o,s.heap.get? b=some o->h'.get? b=some o)->∀Q':rJ->Shared->Prop,Q' κ { s with heap:=h' }->ay (aD prog w) A.in1.in1 (keyKind' its.toArray) Q' (λ_ _=>False) { s with heap:=h' })
  (hc:∀h',(∀b o,s.heap.get? b=some o->h'.get? b=some o)->∀i j,i<its.length->j<its.length->∀Q':Bool->Shared->Prop,Q' (lt i j) { s with heap:=h' } ->
   ay (aD prog w) A.in1.in1 (keyLt' κ (its.getD i aS) (its.getD j aS)) Q' (λ_ _=>False) { s with heap:=h' })
  (hs:2<=its.length->qZ lt its.length (sN its.length) λp=>qu its.length p/\G p.toList) (h1:its.length<2->G (aV its.length))
  (h:∀(ix:List Nat) (h':Heap) (n:Nat),ix.Perm (aV its.length)->G ix->(∀b o,s.heap.get? b=some o->h'.get? b=some o) ->
   h'.get? (s.heap.objs.size+1)=some (bu "list" (ix.map λi=>its.getD i aS).toArray n)->Q (.ref (s.heap.objs.size+1)) { s with heap:=h' }) :
  ay (aD prog w) A (call (.builtin "sorted") [.ref l]) Q E s:=by
 refine iT pK oH oI (args_sorted1 _) ?_
 unfold dS.«sorted»
 refine aa (m:=rK "sorted" 1 1 _) (wpAny_pure ?_)
 refine aa (collect_list hl ?_ (by rw [bF];omega))
 refine aa (fh ?_ (by rw [bF];omega))
 have hsz:((s.heap.push (bu "list" #[] 0)).update s.heap.objs.size (aY (· ++ its.toArray))).objs.size=s.heap.objs.size+1:=by
  rw [dP,nW]
 have ho:(((s.heap.push (bu "list" #[] 0)).update s.heap.objs.size (aY (· ++ its.toArray))).push (bu "list" its.toArray 0)).get? (s.heap.objs.size+1)=some (bu "list" its.toArray 0):=by
  rw [<- hsz];exact aA _ rfl
 have keep:∀b o,s.heap.get? b=some o->(((s.heap.push (bu "list" #[] 0)).update s.heap.objs.size (aY (· ++ its.toArray))).push (bu "list" its.toArray 0)).get? b=some o:=λb o q=>by
  have hlt:b<s.heap.objs.size:=aw q
  rw [cJ _ _ _ (by rw [hsz];exact aB (c5 hlt)),bZ _ _ _ _ (aB hlt),cJ _ _ _ (aB hlt)]
  exact q
 show ay _ _ _ _ _ { s with heap:=((s.heap.push (bu "list" #[] 0)).update s.heap.objs.size (aY (· ++ its.toArray))).push (bu "list" its.toArray 0) }
 rw [hsz]
 refine aa (bC (cf mB ⟨_,ho,rfl⟩ m9 ?body (rM _)))
 case body =>
  generalize hh0:((s.heap.push (bu "list" #[] 0)).update s.heap.objs.size (aY (· ++ its.toArray))).push (bu "list" its.toArray 0)=h0 at ho keep
  generalize ha:s.heap.objs.size+1=a at ho h
  have aNew:∀b o,s.heap.get? b=some o->b≠a:=λb o q=>by have:=aw q;rw [<- ha];exact aB (c5 this)
  show ay (aD prog w) A.in1.in1 (dS.«list.sort» ⟨[.ref a],[]⟩) _ _ { s with heap:=h0 }
  rw [pN]
  have hal:a<h0.objs.size:=aw ho
  refine aa (lT ho rfl ?_)
  refine aa (cY ho rfl ?_ (by rw [ax,bF];omega) (aO _))
  obtain ⟨e1,ho1⟩:∃e1,(h0.update a (aY λ_=>(#[]:Array ah))).get? a=some (bu "list" #[] e1):=⟨_,ef ho (λ_=>#[])⟩
  refine aa (eO ho1 rfl ?_)
  refine aa (iL ?_ (by show its.length<=_;rw [bF];omega))
  refine aa (fh ?_ (aO _))
  refine bC ?_
  have ho6:(((h0.update a (aY λ_=>(#[]:Array ah))).push (bu "tuple" its.toArray 0)).push (bu "list" #[] 0)).get? a=some (bu "list" #[] e1):=by
   rw [cJ _ _ _ (by rw [nW,dP];exact aB (c5 hal)),cJ _ _ _ (by rw [dP];exact aB hal)]
   exact ho1
  have keep6:∀b o,s.heap.get? b=some o->(((h0.update a (aY λ_=>(#[]:Array ah))).push (bu "tuple" its.toArray 0)).push (bu "list" #[] 0)).get? b=some o:=λb o q =>
   ak _ (ak _ ((bZ _ _ _ _ (aNew b o q)).trans (keep b o q)))
  show ay (aD prog w) A.in1.in1 _ _ _ { s with heap:=((h0.update a (aY λ_=>(#[]:Array ah))).push (bu "tuple" its.toArray 0)).push (bu "list" #[] 0) }
  generalize ((h0.update a (aY λ_=>(#[]:Array ah))).push (bu "tuple" its.toArray 0)).push (bu "list" #[] 0)=h6 at ho6 keep6
  dsimp only
  have fin:∀(ix:List Nat),ix.Perm (aV its.length)->G ix->∀out:Array ah,out=(ix.map λi=>its.getD i aS).toArray ->
    ∃v,rO (Flow.ret aS) = .done (.ret v)/\ay (aD prog w) A.in1 (do let _ <- pure v;ret (b7 a)) (λfin s'=>∃v,fin = .done (.ret v)/\Q v s') E { s with heap:=h6.update a (aY λ_=>out) }:=λix hp hg out ho'=>by
   refine ⟨_,rfl,aa (wpAny_pure (wpAny_pure ⟨_,rfl,?_⟩))⟩
   subst ho'
   exact h ix _ _ hp hg (λb o q=>(bZ _ _ _ _ (aNew b o q)).trans (keep6 b o q)) (ef ho6 λ_=>_)
  by_cases h2:its.toArray.size<2
  ·rw [if_pos h2,if_pos h2]
   refine aa (wpAny_pure ?_)
   rw [ma]
   refine aa (wpAny_pure ?_)
   dsimp only
   refine aa (eO ho6 rfl ?_)
   rw [vZ]
   refine aa (cY ho6 rfl ?_ (aO _) (by rw [ax,bF];omega))
   simp only [bne_self_eq_false,c9,if_false]
   rw [ax] at h2
   exact wpAny_pure (fin _ (mC _) (h1 h2) _ (by rw [vO]))
  ·rw [if_neg h2,if_neg h2]
   rw [ax] at h2
   refine aa (aW (hk ∅ h6 keep6 (λκ' s'=>κ'=κ/\s'={ s with heap:=h6 }) ⟨rfl,rfl⟩) (λκ' s' q=>?_) λ_ _ x=>x.elim)
   obtain ⟨rfl,rfl⟩:=q
   refine aa (aW (kat_run (ks:=its) (vs:=its) (κ:=κ') (G:=λp s'=>(qu its.length p/\G p.toList)/\s'={ s with heap:=h6 }) (Q:=λst' s'=>∃p:Array Nat,arrOf st'=p.map (sO (its.toArray.zip its.toArray))/\rP st'=none/\(qu its.length p/\G p.toList)/\s'={ s with heap:=h6 })
    rfl ∅ h64 (λp st' s' a1 a2 a3 a4=>⟨p,a2,a3,a4⟩) (qZ.wp (I:=λs'=>s'={ s with heap:=h6 }) (λi j C s' hi hj hI hC=>?_) (λp s' hp hI=>⟨hp,hI⟩) (hs ∅) rfl)) ?_ λ_ _ e=>e)
   ·subst hI
    exact hc h6 keep6 i j hi hj C (hC _ rfl)
   ·rintro ⟨⟨⟩,st'⟩ s' ⟨p,har,hf,⟨hP,hG⟩,rfl⟩
    dsimp only
    have hout:=sP (ks:=its) (vs:=its) rfl har
    have hz:(oJ (p.toList.map λi=>its.getD i aS)).size=its.length:=by rw [ax,af,bN,hP.size]
    rw [hout]
    refine aa (eO ho6 rfl ?_)
    refine aa (cY ho6 rfl ?_ (aO _) (by rw [hz,bF];omega))
    rw [hf]
    simp only [bne_self_eq_false,c9,if_false]
    exact wpAny_pure (fin p.toList (by have:=Array.perm_iff_toList_perm.mp hP;simpa using this) hG _ rfl)
end
end L2
end
section
namespace L2
open PySem.W
noncomputable def uj (O:KeyOrd) (key:Nat->O.α) (vs out:List V):Prop:=∃ix:List Nat,ix.Perm (aV vs.length)/\out=(ix.map λi=>vs.getD i V.non)/\(ix.map key).Pairwise O.kle
theorem zu.pairwise {O:KeyOrd}{key:Nat->O.α}{p:Array Nat}{n:Nat}(hs:zu (O:=O) key p n) (hz:p.size=n):(p.toList.map key).Pairwise O.kle:=by
 rw [List.pairwise_iff_getElem]
 intro i j hi hj hij
 simp at hi hj
 have q:=hs i j (cV hij) ∅
 unfold kp at q
 have e1:p.getD i 0=p[i]:=by simp [nR,hi]
 have e2:p.getD j 0=p[j]:=by simp [nR,hj]
 rw [e1,e2] at q
 simpa using q
theorem hZ:∀{vs:List V}{us:List ah},jI vs us->∀i,jK (vs.getD i V.non) (us.getD i aS)
 | _,_,.nil,_=>rfl
 | _,_,.cons r _,0=>r
 | _,_,.cons _ t,i+1=>hZ t i
theorem uz {vs:List V}{us:List ah}(r:jI vs us):∀ix:List Nat,jI (ix.map λi=>vs.getD i V.non) (ix.map λi=>us.getD i aS)
 | []=>.nil
 | i::ix=>.cons (hZ r i) (uz r ix)
theorem YN {a b:Int}(h:VQ.kle a b):a<=b:=Int.not_lt.mp (of_decide_eq_false h)
noncomputable def yx (H:Hp) (vs:List V) (rows:List (List Int)):Prop:=dJ (λv (r:List Int)=>∃a,v=V.ref a/\H a=some (.lst (r.map V.int))) vs rows
theorem Paired.get {α β:Type}{F:α->β->Prop}:∀{l₁:List α}{l₂:List β}{i:Nat}{x:α},dJ F l₁ l₂->l₁[i]? = some x->∃y,l₂[i]? = some y/\F x y
 | _,_,_,_,.nil,e=>by simp at e
 | _,_,0,_,.cons r _,e=>by simp at e;subst e;exact ⟨_,rfl,r⟩
 | _,_,i+1,v,.cons _ t,e=>by
  obtain ⟨d,h1,h2⟩:=Paired.get (i:=i) (x:=v) t (by simpa using e)
  exact ⟨d,by simpa using h1,h2⟩
theorem zh:∀{ns:List Int}{us:List ah},jI (ns.map V.int) us->df us ns
 | [],_,.nil=>.nil
 | n::ns,_,.cons ⟨t,e⟩ r=>by subst e;exact .cons n t (zh r)
section
variable {X:Cx}
theorem kK (K:ai) (hu:X.A.units+64<cLine) (hK:X.K=K:=by rfl):qP X (.builtin "sorted") (λxs H Q=>∃p vs rows,xs=[.ref p]/\SqL K H p vs/\vs.length<64/\yx H vs rows /\
  ∀l H' out,H l=none->H' l=some (.lst out)->jq H H'->uj wq (λi=>rows.getD i []) vs out->Q (.ref l) H'):=by
 subst hK
 intro pins s σ H xs us Q I r h
 obtain ⟨p,vs,rows,rfl,hq,h64,hr,k⟩:=h
 obtain ⟨u,rfl,ru⟩:=y7 r
 cases ru
 obtain ⟨its,rv,pl,hz⟩:=I.list hq
 have hlen:its.length=vs.length:=rv.length.symm
 have item:∀i,i<its.length->∃a its' n,its.getD i aS = .ref a/\s.heap.get? a=some { cls:=.type "list",data:=.seq its'.toArray n }/\df its' (rows.getD i []):=λi hi=>by
  have e1:vs[i]? = some (vs[i]'∅):=ag ∅
  obtain ⟨y,e2,a,e3,e4⟩:=Paired.get hr e1
  obtain ⟨u,e5,ru⟩:=rv.get e1
  rw [e3] at ru
  cases ru
  obtain ⟨z,its',n,rv',e6⟩:=I.hok a _ e4
  refine ⟨a,its',n,by rw [ao,e5];rfl,e6,?_⟩
  rw [ao,e2]
  exact zh rv'
 have hun:X.A.in1.in1.units<cLine:=by
  show X.A.units+1+1<cLine
  omega
 refine XM (κ:=oneType') (lt:=ltK wq λi=>rows.getD i []) (G:=λix=>(ix.map λi=>rows.getD i []).Pairwise wq.kle) pl.isList ∅ (λh2 h' hk' Q' q=>?_) (λh' hk' i j hi hj Q' q=>?_) (λh2=>?_) (λh1=>?_) λix h' n hp hg hk' hn=>?_
 ·refine kas_kind (T:=.type "list") h2 (λv hv=>?_) rfl rfl q
  obtain ⟨i,hi,rfl⟩:=List.mem_iff_getElem.mp hv
  obtain ⟨a,its',n,e1,e2,_⟩:=item i hi
  have e3:its[i] = .ref a:=by rw [<- e1];simp [hi]
  rw [e3]
  exact (show Looks _ h' (rz (.ref a)) _ from (sQ (hk' _ _ e2)).andThen .now)
 ·obtain ⟨a,its',n,e1,e2,e3⟩:=item i hi
  obtain ⟨b,its2,n2,f1,f2,f3⟩:=item j hj
  rw [e1,f1,keyLt'_oneType]
  exact Qo hun (hk' _ _ e2) (hk' _ _ f2) e3 f3 q
 ·exact kH ∅ λp' hP hS=>⟨hP,hS.pairwise hP.size⟩
 ·have hcase:its.length=0\/its.length=1:=∅
  rcases hcase with z | z
  ·rw [z];exact fL
  ·rw [z];exact fB _ _
 ·have hf:H (s.heap.objs.size+1)=none:=I.hok.fresh (dH _)
  refine ⟨.ref _,upd H (s.heap.objs.size+1) (.lst (ix.map λi=>vs.getD i V.non)),I.laid (t':=s.toks) hk' (dH _) ⟨?_,_,n,uz rv ix,hn⟩,rfl,k _ _ _ hf j8 (jq.new hf) ⟨ix,by rw [<- hlen];exact hp,rfl,hg⟩⟩
  rw [af,hp.length_eq,cq]
  exact aF (by omega:its.length<=1000) ⋯
end
end L2
end
section
namespace L2
open PySem.W
noncomputable abbrev uh (qual:Str) (params:Arguments) (body:Expr) (scope:Scope) (pm:ah) (c:Addr) (ctv:ah):FuncData:=kla_fn "<lambda>" qual params body scope [] pm (.ref c) ctv
noncomputable def Y6 (f:Addr) (fd:FuncData):HO:=.ext λh=>h.get? f=some { cls:=.type "function",data:=.func fd }
noncomputable def XE (c:Addr) (qual:Str):HO:=.ext λh=>h.CodeRec (.ref c) qual
noncomputable def Tab (H:Hp) (Pt:Addr) (pos:Pos) (qual:Str):Prop:=H Pt=some (.tbl #[])\/∃c',H Pt=some (.tbl #[c6 pos.line,c6 pos.col,.ref c'])/\H c'=some (XE c' qual)
theorem Tab.ne {H:Hp}{Pt:Addr}{pos:Pos}{qual:Str}(T:Tab H Pt pos qual):∃ps,H Pt=some (.tbl ps):=by
 rcases T with z | ⟨c',z,_⟩
 ·exact ⟨_,z⟩
 ·exact ⟨_,z⟩
theorem Tab.same {H H':Hp}{Pt:Addr}{pos:Pos}{qual:Str}(T:Tab H Pt pos qual) (s:jq H H'):Tab H' Pt pos qual:=by
 rcases T with z | ⟨c',z,y⟩
 ·exact .inl (s _ _ z)
 ·exact .inr ⟨c',s _ _ z,s _ _ y⟩
theorem Tab.ext {H H':Hp}{Pt b:Addr}{pos:Pos}{qual:Str}{xs:List V}(T:Tab H Pt pos qual) (hb:H b=some (.lst xs)) (e:Ext b H H'):Tab H' Pt pos qual:=by
 rcases T with z | ⟨c',z,y⟩
 ·exact .inl (e _ _ z (jp z hb (by intro q;cases q)))
 ·exact .inr ⟨c',e _ _ z (jp z hb (by intro q;cases q)),e _ _ y (jp y hb (by intro q;cases q))⟩
theorem Tab.extN {H H':Hp}{Pt b:Addr}{pos:Pos}{qual:Str}(T:Tab H Pt pos qual) (hb:H b=none) (e:Ext b H H'):Tab H' Pt pos qual:=T.same λc o h=>e c o h (j4 h hb)
noncomputable def Bm (mg:Str->Option ah) (base:Heap):Prop:=∃bm ob,mg "__builtins__" = some (.ref bm)/\bm≠lK/\base.get? bm=some ob/\ob.cls = .type "module" /\ ob.dict=some lK/\ob.data = .plain
theorem U4 {P:Program}{w:aU}{K:ai}{mg:Str->Option ah}{base:Heap}{k:Nat}{f c:Addr}{qual:Str}{params:Arguments}{body:Expr}{scope:Scope}{pm ctv:ah}{N:List Str}{x:Str}{A:b9}{outer:List Env}{s:Shared}{H:Hp}{u:ah}{v:V}{Q:VK}{t:TE}
  (ho:s.heap.get? f=some { cls:=.type "function",data:=.func (uh qual params body scope pm c ctv) }) (hcd:s.heap.CodeRec (.ref c) qual) (S:FnScope N [x] scope) (hr:Room (k+1) A) (e0:Env0 P w K mg base A outer s H)
  (hb:∀pm c ctv u,cC (uh qual params body scope pm c ctv) ⟨[u],[]⟩=pure [(x,u)]) (r:jK v u)
  (ht:PE (vp CX0 P w K mg base N qual scope f (.ref c) A outer s H E0).nox body t) (q:t (start N [v]) H Q) :
  cX (aD P w) A (.call (.ref f) ⟨[u],[]⟩) (CR CX0 outer P w H s Q E0) s:=by
 have lim:s.heap.NoLimit:=e0.mod.nolimit.keeps λb o e=>(e0.bs b o e).1
 have hkind:∀y∈([x].zip [u]),scope.names.lookup y.1=some .local\/(scope.names.lookup y.1=some .cell/\((lx (s.heap.objs.size+1) scope.names []).lookup y.1).isSome=true):=λ⟨n,v⟩ hy=>by
  rcases S.par n (fk hy).1 with q | q
  ·exact .inl q
  ·exact .inr ⟨q,dY _ _ _ (.inl q)⟩
 refine kla_callFunE hr.depth ho rfl S.co S.gen rfl hcd ?_
 rw [hb]
 refine wpAny_pure (eN (binds:=[x].zip [u]) S.kind hkind λenv he s1 y=>?_)
 subst he
 refine ⟨lim.keeps y.toInCall.keep,kla_codeExpr ?_⟩
 have I:Inv (vp CX0 P w K mg base N qual scope f (.ref c) A outer s H E0) [] (start N [v]) H s1:=uw S hr.hd e0 rfl (Paired.cons r .nil) y
 refine aW (ht.nox [] s1 (start N [v]) H _ I q) (λu' s' hs=>?_) λe s' hs=>hs
 obtain ⟨v',H',J,rv,q'⟩:=hs
 exact ⟨v',H',J.os,J.bare,J.base,J.hok,rv,q'⟩
section
variable {X:Cx}{pins:List (Addr×Obj)}{σ:St}{H:Hp}{s:Shared}
theorem YG {E:ah->Shared->Prop}{c Pt:Addr}{params:Arguments}{body:Expr}{scope:Scope}{pos:Pos}{Q:ah->Shared->Prop}(I:Inv X pins σ H s) (hcode:X.env.code = .ref c) (CH:CodeHd X.base c Pt) (hB:Bm X.mg X.base)
  (hcl:nQ scope X.env=pure []) (hdef:defaultsOf params X.env=([],[])) (T:Tab H Pt pos (X.env.qual ++ "<lambda>"))
  (k:∀f H' s' pm c' ctv,Inv X pins σ H' s'->H f=none->H' f=some (Y6 f (uh (X.env.qual ++ "<lambda>") params body scope pm c' ctv))->H' c'=some (XE c' (X.env.qual ++ "<lambda>"))->Ext Pt H H'->Tab H' Pt pos (X.env.qual ++ "<lambda>")->Q (.ref f) s') :
  ay (aD X.prog X.w) X.A (eval (.Lambda params body scope pos) X.env) Q E s:=by
 refine kla_eval hdef ?_
 obtain ⟨bm,ob,b1,b2,b3,b4,b5,b6⟩:=hB
 obtain ⟨ps0,hPt⟩:=T.ne
 have trk:∀{b:Addr} {o:Obj},X.base.get? b=some o->b≠Pt:=λ{b o} e z=>by
  have:=(I.bs b o e).2
  rw [z,hPt] at this;cases this
 have hgN:s.heap.Ns mainGlobals X.mg:=I.ok.mod.glob.keeps I.bk
 have hgP:mainGlobals≠Pt:=by
  obtain ⟨o,es,ep,e,_⟩:=I.ok.mod.glob
  exact trk e
 have hbG:bm≠mainGlobals:=λq=>by
  obtain ⟨o,es,ep,e,hd,_⟩:=I.ok.mod.glob
  rw [q,e] at b3;cases b3;rw [hd] at b6;cases b6
 have hBA:s.heap.BuiltinsAt X.mg Pt:=⟨bm,ob,b1,b2,hbG,trk b3,I.bk _ _ b3,b4,b5,b6⟩
 have LS:∀(f:Addr) (fd:FuncData) (h1 h2:Heap),h1.get? f=some { cls:=.type "function",data:=.func fd }->(∀o,h1.get? f=some o->h2.get? f=some o)->h2.get? f=some { cls:=.type "function",data:=.func fd }:=λf fd h1 h2 e m=>m _ e
 have CS:∀(c:Addr) (q:Str) (h1 h2:Heap),h1.CodeRec (.ref c) q->(∀o,h1.get? c=some o->h2.get? c=some o)->h2.CodeRec (.ref c) q:=λc q h1 h2 ⟨c',o,vs,t,e,g,r⟩ m=>by
  cases e
  exact ⟨c,o,vs,t,rfl,m _ g,r⟩
 rcases T with hT | ⟨c',hT,hC⟩
 ·have eT:s.heap.get? Pt=some (pY #[]):=I.hok Pt _ hT
  refine kla_makeFunction (mg:=X.mg) hcl I.ok.glob hgN hcode (CH.keeps I.bk) eT trivial rfl hgP hBA λc' ctv h' tk hx hge hlt hrec htb=>?_
  have hcN:H c'=none:=I.hok.fresh hge
  have hsz:s.heap.objs.size<=h'.objs.size:=cV (bI hge hlt)
  have hfN:H h'.objs.size=none:=I.hok.fresh hsz
  have neC:∀{b:Addr} {o:Obj},s.heap.get? b=some o->b≠c':=λ{b o} e=>aB (aI (aw e) hge)
  have neF:∀{b:Addr} {o:Obj},s.heap.get? b=some o->b≠h'.objs.size:=λ{b o} e=>aB (aI (aw e) hsz)
  have hPc:Pt≠c':=neC eT
  have hPf:Pt≠h'.objs.size:=neF eT
  have hcf:c'≠h'.objs.size:=aB hlt
  have e':h'.get? Pt=some (pY #[c6 pos.line,c6 pos.col,.ref c']):=by simpa using htb
  have getF:∀{b:Addr} {o:HO},H b=some o->b≠Pt->upd (upd (upd H Pt (.tbl #[c6 pos.line,c6 pos.col,.ref c'])) c' (XE c' (X.env.qual ++ "<lambda>"))) h'.objs.size (Y6 h'.objs.size (uh (X.env.qual ++ "<lambda>") params body scope ((X.mg "__name__").getD .none) c' ctv)) b=some o:=λ{b o} e n=>by
   rw [ja (j4 e hfN),ja (j4 e hcN),ja n];exact e
  have atP:upd (upd (upd H Pt (.tbl #[c6 pos.line,c6 pos.col,.ref c'])) c' (XE c' (X.env.qual ++ "<lambda>"))) h'.objs.size (Y6 h'.objs.size (uh (X.env.qual ++ "<lambda>") params body scope ((X.mg "__name__").getD .none) c' ctv)) Pt=some (.tbl #[c6 pos.line,c6 pos.col,.ref c']):=by
   rw [ja hPf,ja hPc,j8]
  have atC:upd (upd (upd H Pt (.tbl #[c6 pos.line,c6 pos.col,.ref c'])) c' (XE c' (X.env.qual ++ "<lambda>"))) h'.objs.size (Y6 h'.objs.size (uh (X.env.qual ++ "<lambda>") params body scope ((X.mg "__name__").getD .none) c' ctv)) c'=some (XE c' (X.env.qual ++ "<lambda>")):=by
   rw [ja hcf,j8]
  refine k h'.objs.size (upd (upd (upd H Pt (.tbl #[c6 pos.line,c6 pos.col,.ref c'])) c' (XE c' (X.env.qual ++ "<lambda>"))) h'.objs.size (Y6 h'.objs.size (uh (X.env.qual ++ "<lambda>") params body scope ((X.mg "__name__").getD .none) c' ctv))) _ ((X.mg "__name__").getD .none) c' ctv ?_ hfN j8 atC (λb o e n=>getF e n) (.inr ⟨c',atP,atC⟩)
  have kp1:∀b o,b≠Pt->s.heap.get? b=some o->(h'.push (kla_obj "<lambda>" (X.env.qual ++ "<lambda>") params body scope [] ((X.mg "__name__").getD .none) c' ctv)).get? b=some o:=λb o n e=>ak _ (hx b o n e)
  have nP:∀{b:Addr},H b=none->b≠Pt:=λ{b} e z=>by rw [z,hT] at e;cases e
  refine I.step (g':=s.gens) (d':=s.drawn) (ch:=[]) (λ_ z=>nomatch z) (λb o _ _ _ e n=>kp1 b o (nP n) e) (λb o _ _ _ e n=>⟨o.slots,kp1 b o (nP n) e⟩) (λb o _ e n=>?_) (λb o _ e=>?_) (λb xs e=>?_) (λb o u e=>?_) (λb ps e=>?_) (λm hm=>?_) (λb u e=>?_) I.bare
  ·rw [ja (neF e),ja (neC e),ja (nP n)];exact n
  ·by_cases hb:b=Pt
   ·subst hb;exact ⟨_,ak _ e'⟩
   ·exact ⟨o,kp1 b o hb e⟩
  ·exact getF e (jp e hT (by intro z;cases z))
  ·exact getF e (jp e hT (by intro z;cases z))
  ·by_cases hb:b=Pt
   ·subst hb
    rw [hT] at e;cases e
    exact ⟨#[c6 pos.line,c6 pos.col,.ref c'],by rw [atP];simp⟩
   ·exact ⟨#[],by rw [getF e hb];simp⟩
  ·obtain ⟨o,es,ep,ho,r⟩:=hm
   exact ⟨o,es,ep,kp1 _ o (nP I.free) ho,r⟩
  ·by_cases h1:b=h'.objs.size
   ·subst h1
    rw [j8] at e;cases e
    exact ⟨aA _ rfl,⟨_,aA _ rfl⟩,λh1 h2 e m=>LS _ _ h1 h2 e m⟩
   ·by_cases h2:b=c'
    ·subst h2
     rw [atC] at e;cases e
     obtain ⟨c2,oc,vs,t,e2,hoc,r⟩:=id hrec
     cases e2
     exact ⟨hrec.keeps λb o e=>ak _ e,⟨_,ak _ hoc⟩,λh1 h2 e m=>CS _ _ h1 h2 e m⟩
    ·by_cases h3:b=Pt
     ·subst h3
      rw [atP] at e;cases e
      exact ak _ e'
     ·rw [ja h1,ja h2,ja h3] at e
      refine (I.hok b u e).stay (λb' v hc q=>kp1 b' v ?_ q) (λb' q=>getF q (jp q hT (by intro z;cases z))) λb' xs q=>getF q (jp q hT (by intro z;cases z))
      rcases hc with z | z
      ·rw [z];exact h3
      ·exact jp z hT (by intro z;cases z)
 ·have eT:s.heap.get? Pt=some (pY #[c6 pos.line,c6 pos.col,.ref c']):=I.hok Pt _ hT
  have tri:TriplesOk (#[c6 pos.line,c6 pos.col,b7 c']:Array ah).toList:=TriplesOk_snoc pos.line pos.col (.ref c') [] trivial
  have hit:codeAmong pos (#[c6 pos.line,c6 pos.col,b7 c']:Array ah).toList=some (.ref c'):=codeAmong_snoc (c:=.ref c') [] trivial rfl
  refine kla_makeFunctionHit (mg:=X.mg) hcl I.ok.glob hgN hcode (CH.keeps I.bk) eT tri hit hBA λctv h' tk hk hsz=>?_
  have hfN:H h'.objs.size=none:=I.hok.fresh hsz
  refine k h'.objs.size (upd H h'.objs.size (Y6 h'.objs.size (uh (X.env.qual ++ "<lambda>") params body scope ((X.mg "__name__").getD .none) c' ctv))) _ ((X.mg "__name__").getD .none) c' ctv ?_ hfN j8 (by rw [ja (j4 hC hfN)];exact hC) (Ext.new hfN) (.inr ⟨c',by rw [ja (j4 hT hfN)];exact hT,by rw [ja (j4 hC hfN)];exact hC⟩)
  exact I.laid (λb o e=>ak _ (hk b o e)) hsz ⟨aA _ rfl,⟨_,aA _ rfl⟩,λh1 h2 e m=>LS _ _ h1 h2 e m⟩
theorem Inv.adopt {D:Addr}{ob:Obj}{o:HO}{h':Heap}{t':Nat}(I:Inv X ((D,ob)::pins) σ H s) (h1:X.s₀.heap.objs.size<=D) (h2:∀x c,X.env.cells.lookup x=some c->c≠D) (h3:∀p∈X.pn++pins,p.1≠D)
  (k:∀b u,b≠D->s.heap.get? b=some u->h'.get? b=some u) (new:qw X.prog X.w (upd H D o) h' D o):Inv X pins σ (upd H D o) { s with heap:=h',toks:=t' }:=by
 obtain ⟨eD,nD,lD,_,_⟩:=I.pin (D,ob) (aE _ bh)
 have I':Inv X pins σ H s:=I.pins_of λp hp=>I.pin p (aE _ (aK _ hp))
 have nit:∀b u,H b=some u->b≠D:=λb u e z=>by rw [z,nD] at e;cases e
 have getF:∀{b:Addr} {u:HO},H b=some u->upd H D o b=some u:=λ{b u} e=>by rw [ja (nit b u e)];exact e
 refine I'.step (g':=s.gens) (d':=s.drawn) (ch:=[D]) (λb hb=>?_) (λb o _ _ hc e _=>k b o (λz=>hc (by simp [z])) e) (λb o _ _ hc e _=>⟨o.slots,k b o (λz=>hc (by simp [z])) e⟩) (λb o hc _ n=>by rw [ja (λz=>hc (by simp [z]))];exact n)
  (λb o hc e=>⟨o,k b o (λz=>hc (by simp [z])) e⟩) (λ_ _ e=>getF e) (λ_ _ _ e=>getF e) (λb ps e=>⟨#[],by rw [getF e];simp⟩) (λm hm=>?_) (λb u e=>?_) I'.bare
 ·have e:b=D:=by simpa using hb
  subst e
  exact ⟨.inr h1,lD,h2,h3⟩
 ·obtain ⟨o,es,ep,ho,r⟩:=hm
  exact ⟨o,es,ep,k _ o (cE lD) ho,r⟩
 ·by_cases hb:b=D
  ·subst hb
   rw [j8] at e;cases e
   exact new
  ·rw [ja hb] at e
   refine (I'.hok b u e).stay (λc v hc q=>k c v ?_ q) (λ_ q=>getF q) λ_ _ q=>getF q
   rcases hc with z | z
   ·rw [z];exact hb
   ·exact nit c _ z
end
end L2
end
section
namespace L2
open PySem.W
noncomputable def W4 (H:Hp) (ks:List V) (keyf:Nat->List Int) (j:Nat):Prop:=ks.length=j/\∀i,i<j->∃q,ks[i]? = some (V.ref q)/\H q=some (.tup ((keyf i).map V.int))
theorem QF {a b:List ah}(h:a.length=b.length):(a.toArray.zip b.toArray).map (·.2)=b.toArray:=by
 apply Array.toList_inj.mp
 rw [oZ,ksk_zip]
 show (a.zip b).map lB=b
 rw [lC]
 omega
section
variable {X:Cx}{pins:List (Addr×Obj)}{σ:St}{H:Hp}{s:Shared}
theorem JU {E:ah->Shared->Prop}{p f:Addr}{vs:List V}{keyf:Nat->List Int}{Q:ah->Shared->Prop}(I:Inv X pins σ H s) (hq:SqL X.K H p vs) (h64:vs.length<64) (hne:∀i,i<vs.length->keyf i≠[])
  (hcall:∀i v,vs[i]? = some v->∀pins' s' H' u,Inv X pins' σ H' s'->jq H H'->jK v u->ay (aD X.prog X.w) X.A.in1.in1 (call (.ref f) [u]) (EP X pins' σ λkv H''=>jq H' H''/\∃q,kv = .ref q/\H'' q=some (.tup ((keyf i).map V.int))) (λ_ _=>False) s')
  (k:∀l H' out s',Inv X pins σ H' s'->H l=none->H' l=some (.lst out)->jq H H'->uj wq keyf vs out->Q (.ref l) s') :
  ay (aD X.prog X.w) X.A (call (.builtin "sorted") [.ref p] [(aj "key",.ref f)]) Q E s:=by
 obtain ⟨its,rv,pl,hz⟩:=I.list hq
 have hlen:its.length=vs.length:=rv.length.symm
 refine call_function_entry_kw pK oH oI (ksk_s1 _ _) ?_
 unfold dS.«sorted»
 refine aa (m:=rK "sorted" 1 1 _) (wpAny_pure ?_)
 refine aa (collect_list pl.isList ?_ (by rw [bF];omega))
 refine aa (fh ?_ (by rw [bF];omega))
 have hsz:((s.heap.push (bu "list" #[] 0)).update s.heap.objs.size (aY (· ++ its.toArray))).objs.size=s.heap.objs.size+1:=by
  rw [dP,nW]
 have ho:(((s.heap.push (bu "list" #[] 0)).update s.heap.objs.size (aY (· ++ its.toArray))).push (bu "list" its.toArray 0)).get? (s.heap.objs.size+1)=some (bu "list" its.toArray 0):=by
  rw [<- hsz];exact aA _ rfl
 have keep:∀b o,s.heap.get? b=some o->(((s.heap.push (bu "list" #[] 0)).update s.heap.objs.size (aY (· ++ its.toArray))).push (bu "list" its.toArray 0)).get? b=some o:=λb o q=>by
  have hlt:b<s.heap.objs.size:=aw q
  rw [cJ _ _ _ (by rw [hsz];exact aB (c5 hlt)),bZ _ _ _ _ (aB hlt),cJ _ _ _ (aB hlt)]
  exact q
 show ay _ _ _ _ _ { s with heap:=((s.heap.push (bu "list" #[] 0)).update s.heap.objs.size (aY (· ++ its.toArray))).push (bu "list" its.toArray 0) }
 rw [hsz]
 refine aa (bC (wpAny_call_entry_kw mB ⟨_,ho,rfl⟩ m9 ?body (ksk_l1 _ _)))
 case body =>
  generalize ((s.heap.push (bu "list" #[] 0)).update s.heap.objs.size (aY (· ++ its.toArray))).push (bu "list" its.toArray 0)=h0 at ho keep
  generalize ha:s.heap.objs.size+1=a at ho
  have hDs:s.heap.objs.size<=a:=by rw [<- ha];exact dH _
  have aNew:∀b o,s.heap.get? b=some o->b≠a:=λb o q=>by have:=aw q;rw [<- ha];exact aB (c5 this)
  show ay (aD X.prog X.w) X.A.in1.in1 (dS.«list.sort» ⟨[.ref a],[(aj "key",.ref f)]⟩) _ _ { s with heap:=h0 }
  rw [ksk_t1]
  unfold ksk_tree
  have hal:a<h0.objs.size:=aw ho
  refine aa (lT ho rfl ?_)
  refine aa (cY ho rfl ?_ (by rw [ax,bF];omega) (aO _))
  obtain ⟨e1,ho1⟩:∃e1,(h0.update a (aY λ_=>(#[]:Array ah))).get? a=some (bu "list" #[] e1):=⟨_,ef ho (λ_=>#[])⟩
  refine aa (eO ho1 rfl ?_)
  refine aa (iL ?_ (by show its.length<=_;rw [bF];omega))
  refine aa (fh ?_ (aO _))
  refine bC ?_
  have ho5:((h0.update a (aY λ_=>(#[]:Array ah))).push (bu "tuple" its.toArray 0)).get? a=some (bu "list" #[] e1):=ak _ ho1
  have keep5:∀b o,s.heap.get? b=some o->((h0.update a (aY λ_=>(#[]:Array ah))).push (bu "tuple" its.toArray 0)).get? b=some o:=λb o q =>
   ak _ ((bZ _ _ _ _ (aNew b o q)).trans (keep b o q))
  show ay (aD X.prog X.w) X.A.in1.in1 (ksk_rest a (.ref f) false its.toArray e1 (.ref ((h0.update a (aY λ_=>(#[]:Array ah))).push (bu "tuple" its.toArray 0)).objs.size)) _ _
   { s with heap:=((h0.update a (aY λ_=>(#[]:Array ah))).push (bu "tuple" its.toArray 0)).push (bu "list" #[] 0) }
  generalize (h0.update a (aY λ_=>(#[]:Array ah))).push (bu "tuple" its.toArray 0)=h5 at ho5 keep5
  have I5:Inv X pins σ H { s with heap:=h5,toks:=s.toks }:=I.kept keep5
  have hHa:H a=none:=I.hok.fresh hDs
  have hHk:H h5.objs.size=none:=I5.hok.fresh (av _)
  have hLoc:a≠X.env.locals:=λz=>by
   obtain ⟨m,⟨o,es,ep,e,_⟩,_⟩:=I.loc
   exact aNew _ _ e z.symm
  have hFs:a∉X.fs:=I.nofs hDs
  have hCell:∀x c,X.env.cells.lookup x=some c->c≠a:=λx c e=>by
   obtain ⟨v,o,e2,_⟩:=I.cell x c e
   exact aNew c o e2
  have hPins:∀q∈X.pn++pins,q.1≠a:=λq hq=>aNew _ _ (I.pin q hq).1
  have I6:Inv X ((a,bu "list" #[] e1)::pins) σ (upd H h5.objs.size (.lst [])) { s with heap:=h5.push (bu "list" #[] 0),toks:=s.toks }:=by
   refine Inv.pins_of (I5.lnew (its:=[]) (ys:=[]) .nil (aO _)) λq hq=>?_
   rcases List.mem_cons.mp hq with rfl | hq
   ·refine ⟨ak _ ho5,?_,hLoc,hFs,λv=>by intro z;cases z⟩
    rw [ja (aB (aw ho5))]
    exact hHa
   ·have J:=(I5.lnew (its:=[]) (ys:=[]) (t':=s.toks) .nil (aO _)).pin q (aE _ hq)
    exact J
  unfold ksk_rest
  refine aa (fq ?_)
  first
   | rw [List.forIn_toArray]
   | (rw [<- nX];simp only [List.toList_toArray])
   | rw [<- nX]
  refine aa (ksk_fold (λj s'=>∃H' ks,Inv X ((a,bu "list" #[] e1)::pins) σ H' s'/\jq H H'/\H' h5.objs.size=some (.lst ks)/\W4 H' ks keyf j) its 0 _
   ⟨_,[],I6,jq.new hHk,j8,rfl,λi hi=>absurd hi (pO _)⟩ (λj x s' hx hJ=>?_) λs' hJ=>?_)
  ·-- a key
   rw [Nat.zero_add] at hJ ⊢
   obtain ⟨H',ks,J,sm,hk,hl,hks⟩:=hJ
   have hj:j<its.length:=(List.getElem?_eq_some_iff.mp hx).1
   have hv:vs[j]? = some (vs[j]'∅):=ag ∅
   obtain ⟨u,e5,ru⟩:=rv.get hv
   rw [hx] at e5
   cases e5
   refine aa (eC (aW (hcall j _ hv _ s' H' x J sm ru) (λkv s'' hk2=>?_) λ_ _ hF=>hF.elim))
   obtain ⟨kv',H'',J2,rk,sm2,q,rfl,hqq⟩:=hk2
   dsimp only
   have hk':=sm2 _ _ hk
   obtain ⟨z,itk,n,rvk,hlk,ek⟩:=J2.lstM hk'
   refine aa (cY ek rfl ?_ (by rw [ax,<- hlk,hl,bF];omega) (aF (oh (Array.size_push ..)) (by rw [ax,<- hlk,hl,bF];omega)))
   refine wpAny_pure ⟨rfl,_,ks++[.ref q],J2.lset (t':=s''.toks) (its':=itk++[kv]) hk' ek (by simp) (rvk.append (.cons rk .nil)) (by rw [az,bf,hl];exact aF (by omega:j+1<=1000) ⋯),λb o e=>?_,j8,?_,λi hi=>?_⟩
   ·rw [ja (j4 e hHk)]
    exact sm2 _ _ (sm _ _ e)
   ·rw [az,bf,hl]
   ·by_cases hij:i<j
    ·obtain ⟨q',e6,e7⟩:=hks i hij
     refine ⟨q',by rw [cS ∅];exact e6,?_⟩
     have e8:=sm2 _ _ e7
     rw [ja (jp e8 hk' (by intro z;cases z))]
     exact e8
    ·have:i=j:=∅
     subst this
     refine ⟨q,by rw [cI ∅,hl];simp,?_⟩
     rw [ja (jp hqq hk' (by intro z;cases z))]
     exact hqq
  ·-- behind the keys
   rw [Nat.zero_add] at hJ
   obtain ⟨H',ks,J,sm,hk,hl,hks⟩:=hJ
   obtain ⟨z,itk,n,rvk,hlk,ek⟩:=J.lstM hk
   have hlk':itk.length=its.length:=∅
   refine aa (lT ek rfl ?_)
   obtain ⟨eD,nD,_⟩:=J.pin (a,bu "list" #[] e1) (aE _ bh)
   have hak:a≠h5.objs.size:=λz=>by rw [z,hk] at nD;cases nD
   have keyAt:∀i,i<its.length->∃q itq o m,itk.getD i aS = .ref q/\s'.heap.get? q=some o/\o.cls = .type "tuple" /\ o.data = .seq itq.toArray m/\df itq (keyf i):=λi hi=>by
    obtain ⟨q,e6,e7⟩:=hks i hi
    obtain ⟨u,e8,ru⟩:=rvk.get e6
    cases ru
    obtain ⟨zz,itq,rq,o,e9,ec,m,ed⟩:=J.hok q _ e7
    exact ⟨q,itq,o,m,by rw [ao,e8];rfl,e9,ec,ed,zh rq⟩
   have fin:∀(ix:List Nat) (st':SortSt),ix.Perm (aV its.length)->(ix.map keyf).Pairwise wq.kle->rP st'=none->(arrOf st').map (·.2)=(ix.map λi=>its.getD i aS).toArray ->
     ay (aD X.prog X.w) X.A.in1.in1 (ksk_tail a false e1 (.ref h5.objs.size) st') (λfin s'=>∃v,fin = .done (.ret v)/\ay (aD X.prog X.w) X.A.in1 (do let _ <- pure v;ret (b7 a)) (λfin s'=>∃v,fin = .done (.ret v)/\Q v s') E s') E s':=by
    intro ix st' hp hg hf hout
    unfold ksk_tail
    dsimp only
    rw [hout]
    have hol:(ix.map λi=>its.getD i aS).length<64:=by rw [af,hp.length_eq,cq];omega
    refine aa (cY ek rfl ?_ (by rw [ax,hlk',bF];omega) (aO _))
    refine aa (mD ?_)
    have J2:Inv X ((a,bu "list" #[] e1)::pins) σ (upd H' h5.objs.size (.lst [])) { s' with heap:=s'.heap.update h5.objs.size (aY λ_=>(#[]:Array ah)),toks:=s'.toks }:=J.lset (its':=[]) (ys:=[]) hk ek rfl .nil (aO _)
    have eD2:(s'.heap.update h5.objs.size (aY λ_=>(#[]:Array ah))).get? a=some (bu "list" #[] e1):=(bZ _ _ _ _ hak).trans eD
    refine aa (eO eD2 rfl ?_)
    refine aa (cY eD2 rfl ?_ (aO _) (by simp only [c9,if_false];rw [ax,bF];omega))
    rw [hf]
    simp only [bne_self_eq_false,c9,if_false]
    refine wpAny_pure ⟨_,rfl,aa (wpAny_pure (wpAny_pure ⟨_,rfl,?_⟩))⟩
    have eo:∃n,((s'.heap.update h5.objs.size (aY λ_=>(#[]:Array ah))).update a (aY λ_=>(ix.map λi=>its.getD i aS).toArray)).get? a=some (bu "list" (ix.map λi=>its.getD i aS).toArray n):=⟨_,ef eD2 λ_=>_⟩
    obtain ⟨n',eo⟩:=eo
    have J3:=J2.adopt (o:=.lst (ix.map λi=>vs.getD i V.non)) (t':=s'.toks) (aF I.sz hDs) hCell hPins
     (h':=(s'.heap.update h5.objs.size (aY λ_=>(#[]:Array ah))).update a (aY λ_=>(ix.map λi=>its.getD i aS).toArray)) (λb u n e=>(bZ _ _ _ _ n).trans e) ⟨by rw [af,hp.length_eq,cq];exact aF (by omega:its.length<=1000) ⋯,_,n',uz rv ix,eo⟩
    refine k a _ _ _ J3 hHa j8 (λb o e=>?_) ⟨ix,by rw [<- hlen];exact hp,rfl,hg⟩
    rw [ja (j4 e hHa),ja (j4 e hHk)]
    exact sm _ _ e
   unfold ksk_end
   dsimp only
   simp only [c9,if_false]
   by_cases h2:its.toArray.size<2
   ·rw [if_pos h2,if_pos h2]
    refine aa (wpAny_pure ?_)
    rw [ma]
    refine aa (wpAny_pure ?_)
    dsimp only
    rw [ax] at h2
    refine fin (aV its.length) _ (mC _) ?_ rfl ?_
    ·have hcase:its.length=0\/its.length=1:=∅
     rcases hcase with z | z
     ·rw [z];exact fL
     ·rw [z];exact fB _ _
    ·rw [vO]
     exact QF hlk'
   ·rw [if_neg h2,if_neg h2]
    rw [ax] at h2
    have tups:∃fs,KatTups s'.heap itk fs/\0<fs.length/\∀v∈fs,Looks (aD X.prog X.w) s'.heap (rz v) (.type "int"):=by
     have go:∀(l:List ah),(∀i,i<l.length->∃q itq o m ns,l.getD i aS = .ref q/\s'.heap.get? q=some o/\o.cls = .type "tuple" /\ o.data = .seq (oJ itq) m/\df itq ns/\ns≠[]) ->
       ∃fs,KatTups s'.heap l fs/\fs.length=l.length/\∀v∈fs,Looks (aD X.prog X.w) s'.heap (rz v) (.type "int"):=by
      intro l
      induction l with
      | nil=>intro _;exact ⟨[],.nil,rfl,λ_ h=>nomatch h⟩
      | cons v l ih =>
       intro h
       obtain ⟨fs,t,e,lk⟩:=ih λi hi=>h (i+1) (by rw [bq];omega)
       obtain ⟨q,itq,o,m,ns,e1,e2,e3,e4,e5,e6⟩:=h 0 (by rw [bq];omega)
       have e1':v = .ref q:=e1
       subst e1'
       cases e5 with
       | nil=>exact absurd rfl e6
       | cons n t' r =>
        refine ⟨.int n t'::fs,KatTups.cons e2 e3 e4 (by simp) t,by rw [bq,bq,e],λv hv=>?_⟩
        rcases List.mem_cons.mp hv with rfl | hv
        ·exact si rfl
        ·exact lk v hv
     obtain ⟨fs,t,e,lk⟩:=go itk λi hi=>by
      obtain ⟨q,itq,o,m,a1,a2,a3,a4,a5⟩:=keyAt i ∅
      exact ⟨q,itq,o,m,keyf i,a1,a2,a3,a4,a5,hne i ∅⟩
     exact ⟨fs,t,∅,lk⟩
    obtain ⟨fs,t,hfs,lk⟩:=tups
    refine aa (kat_kind (T:=.type "int") t hfs lk rfl ?_)
    rw [show (fT "int" != fT "tuple")=true from rfl]
    refine aa (aW (kat_run (ks:=itk) (vs:=its) (κ:=tuples' true) (G:=λp s2=>(qu its.length p/\(p.toList.map keyf).Pairwise wq.kle)/\s2=s') (Q:=λst' s2=>∃p:Array Nat,arrOf st'=p.map (sO (itk.toArray.zip its.toArray))/\rP st'=none/\(qu its.length p/\(p.toList.map keyf).Pairwise wq.kle)/\s2=s')
     hlk' ∅ ∅ (λp st' s' a1 a2 a3 a4=>⟨p,a2,a3,a4⟩) (qZ.wp (lt:=ltK wq keyf) (n:=its.length) (I:=λs2=>s2=s') (λi j C s2 hi hj hI hC=>?_) (λp s2 hp hI=>⟨hp,hI⟩) (kH ∅ λp' hP hS=>⟨hP,hS.pairwise hP.size⟩) rfl)) ?_ λ_ _ e=>e)
    ·subst hI
     obtain ⟨q,itq,o,m,a1,a2,a3,a4,a5⟩:=keyAt i hi
     obtain ⟨q',itq',o',m',b1,b2,b3,b4,b5⟩:=keyAt j hj
     unfold kas_ask
     rw [a1,b1]
     exact Xh a2 a4 b2 b4 a5 b5 (hC _ rfl)
    ·rintro ⟨⟨⟩,st'⟩ s2 ⟨p,har,hf,⟨hP,hG⟩,rfl⟩
     dsimp only
     exact fin p.toList st' (by have:=Array.perm_iff_toList_perm.mp hP;simpa using this) hG hf (sP hlk' har)
end
end L2
end
section
namespace L2
open PySem.W
section
variable {prog:Program}{w:aU}{A:b9}{E:ah->Shared->Prop}{s:Shared}
theorem QX (n:Nat):cj none none (-1) (n:Int)=((n:Int)-1,-1):=by
 unfold cj
 simp
theorem XU (n:Nat):bJ ((n:Int)-1) (-1) (-1)=n:=by
 unfold bJ
 have h1:¬((-1:Int) > 0):=⋯
 simp only [h1,if_false]
 by_cases h:n=0
 ·subst h;simp
 ·rw [show (- -1:Int)=1 by decide]
  simp only [Int.ediv_one]
  split <;> omega
theorem uD {sl:Addr}{v3:ah}{n:Nat}{Q:Int×Int×Nat->Shared->Prop}(hs:s.heap.IsSliceOf sl .none .none v3) (pk:lN v3 (some (-1)))
  (h:Q ((n:Int)-1,-1,n) s):ay (aD prog w) A (dq (.ref sl) (pure (n:Int))) Q E s:=by
 obtain ⟨os,hos,hcs,hds⟩:=id hs
 unfold dq iS
 refine aa (aa (bw hos hds (x:=.none) rfl (aa (bw hos hds (x:=.none) rfl (aa (bw hos hds (x:=v3) rfl (wpAny_pure ?_)))))))
 refine aa (HT.slicePart_ pk ?_)
 show ay _ _ (if ((-1:Int) == 0)=true then _ else _) _ _ s
 rw [if_neg ⋯]
 refine aa (HT.slicePart_ .none (aa (HT.slicePart_ .none (aa (wpAny_pure ?_)))))
 show ay _ _ (match cj none none (-1) (n:Int) with | (lo,hi)=>pure (lo,(-1:Int),bJ lo hi (-1))) _ _ s
 rw [QX n]
 show ay _ _ (pure ((n:Int)-1,(-1:Int),bJ ((n:Int)-1) (-1) (-1))) _ _ s
 rw [XU]
 exact wpAny_pure h
theorem Vo (xs:Array ah):((aV xs.size).filterMap λ(m:Nat)=>xs[(((xs.size:Int)-1)+(m:Int) * -1).toNat]?).toArray=xs.toList.reverse.toArray:=by
 have e:((aV xs.size).filterMap λ(m:Nat)=>xs[(((xs.size:Int)-1)+(m:Int) * -1).toNat]?)=((aV xs.size).map λk=>xs.size-1-k).filterMap (xs[·]?):=by
  rw [nN]
  congr 1
  funext m
  show xs[(((xs.size:Int)-1)+(m:Int) * -1).toNat]? = xs[xs.size-1-m]?
  congr 1
  omega
 rw [e,krv_range,List.filterMap_reverse,krv_all]
theorem ut {t sl:Addr}{items:Array ah}{v3:ah}{Q:ah->Shared->Prop}(ht:rf s.heap t items) (hs:s.heap.IsSliceOf sl .none .none v3) (pk:lN v3 (some (-1)))
  (h:Q (.ref s.heap.objs.size) { s with heap:=s.heap.push { cls:=.type "tuple",data:=.seq items.toList.reverse.toArray } }) (hsz:items.size<=sizeLine):ay (aD prog w) A (iA (.ref t) (.ref sl)) Q E s:=by
 have htake:sizeOk (.seq items.toList.reverse.toArray):=by
  show items.toList.reverse.toArray.size<=sizeLine
  rw [ax,iz,bN]
  exact hsz
 obtain ⟨os,hos,hcs,hds⟩:=id hs
 have hTs:s.TypeIs (.ref sl) "slice":=⟨os,hos,hcs⟩
 unfold iA
 try with_reducible refine bC ?_
 first | refine aa (wpAny_pure ?_) | skip
 refine aa (oA ht.typeIs ⋯ ?_)
 refine aa (bP (name:=aj "__getitem__") ht.typeIs cR
  (cf cR ht.typeIs mV ?_ (nO _ _)))
 show ay _ _ (iJ (.ref t) >>= _) _ _ s
 refine aa (rZ ht ?_)
 refine aa (wpAny_typeOf hTs ?_)
 rw [if_pos ⋯]
 refine aa (uD hs pk ?_)
 show ay _ _ (if (((items.size:Int)-1) == 0 && (-1:Int) == 1 && items.size == items.size)=true then _ else _) _ _ s
 rw [if_neg (by simp),Vo]
 first
  | exact aa (m:=bM _) (bx (wpAny_pure ⟨_,rfl,wpAny_pure h⟩) htake)
  | exact aa (m:=bM _) (bx (aa (wpAny_pure (wpAny_pure ⟨_,rfl,wpAny_pure h⟩))) htake)
  | exact aa (aa (m:=bM _) (bx (wpAny_pure (wpAny_pure ⟨_,rfl,wpAny_pure h⟩)) htake))
  | exact aa (aa (m:=bM _) (bx (wpAny_pure ⟨_,rfl,wpAny_pure h⟩) htake))
end
section
variable {X:Cx}{e:Expr}{te:TE}{pos p2 p3 p4:Pos}{j3:Nat}
noncomputable def Gy (K:ai) (te:TE):TE:=λσ H Q=>te σ H λx H2=>∃a xs,x = .ref a/\SqT K H2 a xs/\New H2 (.tup xs.reverse) Q
noncomputable def Gr (K:ai) (te:TE):TE:=λσ H Q=>te σ H λx H2=>∃a xs,x = .ref a/\SqL K H2 a xs/\New H2 (.lst xs.reverse) Q
theorem Ud (K:ai) (he:PE X e te) (hK:X.K=K:=by rfl):PE X (.Subscript e (.Slice none none (some (.UnaryOp .USub (.Constant (.int 1) j3 p3) p4)) p2) pos) (Gy K te):=by
 subst hK
 intro pins s σ H Q I h
 refine lO (thn (he pins s σ H _ I h) λv s1 ⟨x,H1,I1,r1,q1⟩=>?_)
 refine pH ?_
 rw [l9]
 refine wpAny_pure ?_
 refine wpAny_pure ?_
 rw [nj]
 obtain ⟨a,xs,rfl,hx,q⟩:=q1
 refine thn (Zs Jz j6 pins s1 σ H1 (λy H2=>y = .int (-1)/\H2=H1) I1 ⟨_,rfl,rfl,rfl⟩) λu s3 ⟨y,H3,I3,ry,ey,eH⟩=>?_
 subst ey eH
 obtain ⟨tk,rfl⟩:=ry
 cases r1
 have I4:Inv X pins σ H3 { s3 with heap:=s3.heap.push { cls:=.type "slice",data:=.fields #[.none,.none,.int (-1) tk] } }:=I3.kept (t':=s3.toks) λb ob q=>ak _ q
 obtain ⟨its,r,ht,hz⟩:=I4.tuple hx
 have hlen:its.toArray.size=xs.length:=by rw [ax];exact r.length.symm
 show ay (aD X.prog X.w) X.A (i4 e (.Slice none none (some (.UnaryOp .USub (.Constant (.int 1) j3 p3) p4)) p2) (.ref a) (.ref s3.heap.objs.size)) (EP X pins σ Q) X.xe { s3 with heap:=s3.heap.push { cls:=.type "slice",data:=.fields #[.none,.none,.int (-1) tk] } }
 refine sL (ops:=[.ref a,.ref s3.heap.objs.size]) ht.typeIs PyProof.Rows.slot_tuple_getitem.lookup ?_ (by with_unfolding_all rfl)
 refine ut ht (iK ..) (.int _ _) ?_ (by rw [hlen];exact hz)
 have hf:=I4.hok.fresh (av _)
 refine ⟨.ref _,_,I4.laid (t':=s3.toks) (o:=.tup xs.reverse) (λb ob q=>ak _ q) (av _) ?_,rfl,q.at _ hf⟩
 exact ⟨by rw [iz];exact hz,_,r.reverse,oX _ _⟩
theorem U9 (K:ai) (he:PE X e te) (hK:X.K=K:=by rfl):PE X (.Subscript e (.Slice none none (some (.UnaryOp .USub (.Constant (.int 1) j3 p3) p4)) p2) pos) (Gr K te):=by
 subst hK
 intro pins s σ H Q I h
 refine lO (thn (he pins s σ H _ I h) λv s1 ⟨x,H1,I1,r1,q1⟩=>?_)
 refine pH ?_
 rw [l9]
 refine wpAny_pure ?_
 refine wpAny_pure ?_
 rw [nj]
 obtain ⟨a,xs,rfl,hx,q⟩:=q1
 refine thn (Zs Jz j6 pins s1 σ H1 (λy H2=>y = .int (-1)/\H2=H1) I1 ⟨_,rfl,rfl,rfl⟩) λu s3 ⟨y,H3,I3,ry,ey,eH⟩=>?_
 subst ey eH
 obtain ⟨tk,rfl⟩:=ry
 cases r1
 have I4:Inv X pins σ H3 { s3 with heap:=s3.heap.push { cls:=.type "slice",data:=.fields #[.none,.none,.int (-1) tk] } }:=I3.kept (t':=s3.toks) λb ob q=>ak _ q
 obtain ⟨its,r,ht,hz⟩:=I4.list hx
 have hlen:its.length=xs.length:=r.length.symm
 show ay (aD X.prog X.w) X.A (i4 e (.Slice none none (some (.UnaryOp .USub (.Constant (.int 1) j3 p3) p4)) p2) (.ref a) (.ref s3.heap.objs.size)) (EP X pins σ Q) X.xe { s3 with heap:=s3.heap.push { cls:=.type "slice",data:=.fields #[.none,.none,.int (-1) tk] } }
 refine sL (ops:=[.ref a,.ref s3.heap.objs.size]) ht.isList.typeIs slot_list_getitem.lookup ?_ (by with_unfolding_all rfl)
 refine lg ht.isList (iK ..) .none .none (.int _ _) ⋯ ?_ (by rw [ax];omega)
 rw [krv_pick]
 have hf:=I4.hok.fresh (av _)
 refine ⟨.ref _,_,I4.laid (t':=s3.toks) (o:=.lst xs.reverse) (λb ob q=>ak _ q) (av _) ?_,rfl,q.at _ hf⟩
 exact ⟨by rw [iz];exact hz,_,0,r.reverse,aA _ rfl⟩
end
theorem SqL.extT {K:ai}{Pt a:Addr}{H H':Hp}{xs:List V}{ps:Array ah}(hp:H Pt=some (.tbl ps)) (x:Ext Pt H H') (h:SqL K H a xs):SqL K H' a xs:=by
 rcases h with (h | ⟨o,h⟩) | h
 ·exact .inl (.inl (x _ _ h (jp h hp (by intro z;cases z))))
 ·exact .inl (.inr ⟨o,x _ _ h (jp h hp (by intro z;cases z))⟩)
 ·exact .inr h
section
variable {X:Cx}{e body:Expr}{ta:TA}{tb:TE}{params:Arguments}{scope:Scope}{lpos kpos p pos:Pos}{N:List Str}{x:Str}{c Pt:Addr}{k:Nat}
noncomputable def WA (K:ai) (Pt:Addr) (lpos:Pos) (qual:Str) (N:List Str) (ta:TA) (tb:TE):TE:=λσ H Q=>ta σ H λxs H1=>Tab H1 Pt lpos qual/\∃(p:Addr) (vs:List V) (keyf:Nat->List Int),xs=[.ref p]/\SqL K H1 p vs/\vs.length<64/\(∀i,i<vs.length->keyf i≠[]) /\
 (∀H2,Ext Pt H1 H2->∀i v,vs[i]? = some v->tb (start N [v]) H2 λkv H3=>jq H2 H3/\∃q,kv = .ref q/\H3 q=some (.tup ((keyf i).map V.int))) /\
 ∀l H2 out,H1 l=none->H2 l=some (.lst out)->Ext Pt H1 H2->Tab H2 Pt lpos qual->uj wq keyf vs out->Q (.ref l) H2
theorem Xu (hg:Gl X "sorted") (hm:X.mg "sorted" = none) (ha:PA X [e] ta) (hcode:X.env.code = .ref c) (CH:CodeHd X.base c Pt) (hB:Bm X.mg X.base) (hr:Room (k+3) X.A) (S:FnScope N [x] scope)
  (hb:∀pm c ctv u,cC (uh (X.env.qual ++ "<lambda>") params body scope pm c ctv) ⟨[u],[]⟩=pure [(x,u)])
  (hbody:∀f c' s H,PE (vp CX0 X.prog X.w X.K X.mg X.base N (X.env.qual ++ "<lambda>") scope f (.ref c') X.A.in1.in1 X.stack s H E0).nox body tb)
  (hcl:nQ scope X.env=pure []:=by rfl) (hdef:defaultsOf params X.env=([],[]):=by rfl)
  (he:cT pos (aN [e] X.env)=(false,eval e X.env)::cT pos (aN [] X.env):=by rfl) (hplain:(cT pos (aN [e] X.env)).any (·.1)=false:=by rfl) :
  PE X (.Call (.Name "sorted" p) [e] [⟨some (aj "key"),.Lambda params body scope lpos,kpos⟩] pos) (WA X.K Pt lpos (X.env.qual ++ "<lambda>") N ta tb):=by
 intro pins s σ H Q I h
 refine cU (yS I hg hm pL ?_ ⋯ ⋯)
 refine callWith_kw (thn (ha pos pins s σ H _ I h) λus s1 ⟨vs,H1,I1,r,q⟩=>?_) he hplain
 show ay _ _ (evalAll ((do let v <- eval (.Lambda params body scope lpos) X.env;fZ pos;pure v)::[])) _ _ s1
 obtain ⟨T,a,xs,keyf,e1,hx,h64,hne,hkey,hq⟩:=q
 subst e1
 obtain ⟨u0,rfl,ru⟩:=y7 r
 cases ru
 obtain ⟨ps0,hPt⟩:=T.ne
 refine wpAny_evalAll_cons (aa (YG I1 hcode CH hB hcl hdef T λf H2 s2 pm c' ctv I2 hf hf2 hc2 X2 T2=>aa (cW (wpAny_pure (wpAny_evalAll_nil ?_)))))
 show ay _ _ (call (.builtin "sorted") [.ref a] [(aj "key",.ref f)]) _ _ s2
 refine JU I2 (SqL.extT hPt X2 hx) h64 hne (λi v hv pins' s' H' u I' sm ru=>?_) λl H3 out s' I3 hl hl3 sm hs=>?_
 ·have X3:Ext Pt H1 H':=X2.trans (Ext.of_same sm)
  obtain ⟨ho,_⟩:=I'.hok f _ (sm _ _ hf2)
  obtain ⟨hcd,_⟩:=I'.hok c' _ (sm _ _ hc2)
  refine fm (de (U4 (k:=k) ho hcd S (hr.in1.in1) I'.env0.in1.in1 hb ru (hbody f c' s' H') (hkey H' X3 i v hv)) λr s'' hq=>?_)
  cases r with
  | error e=>exact bp hq
  | ok fl =>
   cases fl with
   | ret u=>exact I'.after hq
   | next=>exact bp hq
   | brk=>exact bp hq
   | cont=>exact bp hq
 ·exact ⟨.ref l,H3,I3,rfl,hq l H3 out (X2.free hl (λz=>by rw [z] at hl;obtain ⟨p2,z2⟩:=T2.ne;rw [z2] at hl;cases hl)) hl3 (X2.trans (Ext.of_same sm)) (T2.same sm) hs⟩
end
end L2
end
section
namespace L2
open PySem.W
theorem Yv {P:Program}{w:aU}{K:ai}{mg mb:Str->Option ah}{k:Nat}{fa a c Pt:Addr}{fd:FuncData}{x:Str}{sp:Sp}{s₁:Shared}{vs:List ah}{ns:List Int}
  (KX:K.In s₁.heap) (hns:s₁.heap.Ns mainGlobals mg) (hb:s₁.heap.Ns lK mb) (hbb:∀x:Str,x ≠ "__name__" -> mb x=eR x) (hlim:s₁.heap.NoLimit) (hg:s₁.gens = #[])
  (ha:s₁.heap.get? a=some { cls:=.type "list",data:=.seq vs.toArray }) (hi:df vs ns) (hl:ns.length<=sizeLine) (hr:Room k mT)
  (hPt:s₁.heap.get? Pt=some (pY #[])) (hKP:K.lookup Pt=none) (CH:CodeHd s₁.heap c Pt) (hB:Bm mg s₁.heap)
  (F:∀base:Heap,K.In base->base.Ns mainGlobals mg->Bm mg base->FnOk P w K mg base CX0 k fa fd [x] sp) (hbind:∀(s:Shared) (u:ah),ow s fd ⟨[u],[]⟩ [(x,u)])
  (hsp:∀H:Hp,SqL K H a (ns.map V.int)->H Pt=some (.tbl #[])->sp [.ref a] H (λv _=>v = .bl true) λ_ _ _=>False) :
  cX (aD P w) mT (.call (.ref fa) ⟨[.ref a],[]⟩) (λr s'=>r = .ok (.ret (.bool true))/\OldK s₁.heap s'.heap/\s'.os=s₁.os/\fY s'.gens) s₁:=by
 have rv:=uP hi
 have lenV:=hi.length
 have core:∀H:Hp,H Pt=some (.tbl #[])->(∀b,b≠Pt->H b=none\/∃o xs,H b=some (.frz o (.lst xs)))->SqL K H a (ns.map V.int)->HOk P w H s₁.heap->(∀b,H b≠none->b=a\/b=Pt)->(H a≠none->K.lookup a=none) ->
   cX (aD P w) mT (.call (.ref fa) ⟨[.ref a],[]⟩) (λr s'=>r = .ok (.ret (.bool true))/\OldK s₁.heap s'.heap/\s'.os=s₁.os/\fY s'.gens) s₁:=by
  intro H hP hO hS hok hA hK
  have base_of:∀{b:Addr} {o:Obj},s₁.heap.get? b=some o->H b=none->(kZ s₁.heap H).get? b=some o:=λe n=>Vg e n
  have noA:∀{b:Addr} {o:Obj},s₁.heap.get? b=some o->(∀xs n,o.data≠.seq xs n)->(∀vs,o.data = .fields vs->o.cls≠.none)->H b=none:=λ{b o} e d1 d2=>by
   cases q:H b with
   | none=>rfl
   | some u =>
    rcases hA b (by rw [q];simp) with e' | e'
    ·subst e'
     rw [ha] at e;cases e
     exact absurd rfl (d1 _ _)
    ·subst e'
     rw [hPt] at e;cases e
     exact absurd rfl (d2 _ rfl)
  have noD:∀{b:Addr} {o:Obj} {es:Array DictEntry} {ep:Nat},s₁.heap.get? b=some o->o.data = .dict es ep->H b=none:=λ{b o es ep} e d =>
   noA e (λxs n z=>by rw [d] at z;cases z) (λvs z=>by rw [d] at z;cases z)
  have nsK:∀{b:Addr} {m:Str->Option ah},s₁.heap.Ns b m->(kZ s₁.heap H).Ns b m:=λ{b m} ⟨o,es,ep,e,d,r⟩=>⟨o,es,ep,base_of e (noD e d),d,r⟩
  have hKb:K.In (kZ s₁.heap H):=λb o e=>base_of (KX b o e) (by
   cases q:H b with
   | none=>rfl
   | some u =>
    rcases hA b (by rw [q];simp) with e' | e'
    ·subst e'
     rw [hK (by rw [q];simp)] at e;cases e
    ·subst e'
     rw [hKP] at e;cases e)
  have hBb:Bm mg (kZ s₁.heap H):=by
   obtain ⟨bm,ob,b1,b2,b3,b4,b5,b6⟩:=hB
   exact ⟨bm,ob,b1,b2,base_of b3 (noA b3 (λxs n z=>by rw [b6] at z;cases z) λvs z=>by rw [b6] at z;cases z),b4,b5,b6⟩
  have hM:Mod K mg (kZ s₁.heap H):=⟨hKb,nsK hns,⟨mb,nsK hb,hbb⟩,let ⟨mc,h1,h2⟩:=hlim;⟨mc,nsK h1,h2⟩⟩
  have e0:Env0 P w K mg (kZ s₁.heap H) mT [] s₁ H:=⟨rfl,hM,λb o e=>VA e,oh (Y1 _ _),trivial,λb hb=>absurd (show b∈([]:List Addr) from hb) (by simp),hok,.of_eq hg⟩
  refine de ((F _ hKb (nsK hns) hBb).run mT [] s₁ H ⟨[.ref a],[]⟩ [.ref a] [.ref a] _ _ hr e0 (hbind s₁ (.ref a)) (.cons rfl .nil) (hsp H hS hP)) λr s' h=>?_
  cases r with
  | error e=>exact bp h
  | ok fl =>
   cases fl with
   | next=>exact bp h
   | brk=>exact bp h
   | cont=>exact bp h
   | ret u =>
    obtain ⟨v,H',os,bare,un,hok',r',q⟩:=h
    have q':v = .bl true:=q
    subst q'
    obtain rfl:u=lJ true:=r'
    have kp:∀b o,b≠Pt->s₁.heap.get? b=some o->s'.heap.get? b=some o:=λb o hb e=>by
     cases q:H b with
     | none=>exact un.keep b o e q (by intro z;exact absurd (show b∈([]:List Addr) from z) (by simp)) (by simp)
     | some u =>
      rcases hO b hb with z | ⟨ob,xs,z⟩
      ·rw [q] at z;cases z
      ·have z2:=un.frzs b ob _ z
       obtain ⟨e1,_⟩:=hok b _ z
       obtain ⟨e2,_⟩:=hok' b _ z2
       rw [e] at e1;cases e1
       exact e2
    obtain ⟨more,hm⟩:=un.tbls Pt _ hP
    have hm':s'.heap.get? Pt=some { cls:=.none,data:=.fields (#[]++more) }:=hok' Pt _ hm
    refine ⟨rfl,⟨λb o e=>?_,λb o e=>?_⟩,os,bare⟩
    ·by_cases hb:b=Pt
     ·subst hb
      rw [hPt] at e;cases e
      exact .inr (.inl ⟨(CH.tab hPt).isCodeTable,rfl,#[],more,rfl,hm'⟩)
     ·exact .inl (kp b o hb e)
    ·by_cases hb:b=Pt
     ·subst hb;exact ⟨_,hm'⟩
     ·exact ⟨o,kp b o hb e⟩
 have haP:a≠Pt:=λz=>by rw [z,hPt] at ha;cases ha
 cases hk:K.lookup a with
 | some o =>
  have e:=KX a o hk
  rw [ha] at e
  cases e
  refine core (λb=>if b=Pt then some (.tbl #[]) else none) (if_pos rfl) (λb hb=>.inl (if_neg hb)) (.inr ⟨_,vs.toArray,_,hk,rfl,rfl,rfl,by rw [ax,lenV];exact hl,by simpa using rv⟩) (λb u z=>?_) (λb z=>?_) λz=>absurd (if_neg haP) z
  ·by_cases hb:b=Pt
   ·have z':=(if_pos hb).symm.trans z
    cases z'
    subst hb
    exact hPt
   ·have z':=(if_neg hb).symm.trans z
    cases z'
  ·by_cases hb:b=Pt
   ·exact .inr hb
   ·exact absurd (if_neg hb) z
 | none =>
  refine core (λb=>if b=Pt then some (.tbl #[]) else if b=a then some (.frz { cls:=.type "list",data:=.seq vs.toArray } (.lst (ns.map V.int))) else none) (if_pos rfl) (λb hb=>?_)
   (.inl (.inr ⟨{ cls:=.type "list",data:=.seq vs.toArray },(if_neg haP).trans (if_pos rfl)⟩)) (λb u z=>?_) (λb z=>?_) λ_=>hk
  ·by_cases hb2:b=a
   ·exact .inr ⟨_,_,(if_neg hb).trans (if_pos hb2)⟩
   ·exact .inl ((if_neg hb).trans (if_neg hb2))
  ·by_cases hb:b=Pt
   ·have z':=(if_pos hb).symm.trans z
    cases z'
    subst hb
    exact hPt
   ·by_cases hb2:b=a
    ·have z':=((if_neg hb).trans (if_pos hb2)).symm.trans z
     cases z'
     subst hb2
     exact ⟨ha,by rw [af];exact hl,vs,_,rv,ha⟩
    ·have z':=((if_neg hb).trans (if_neg hb2)).symm.trans z
     cases z'
  ·by_cases hb:b=Pt
   ·exact .inr hb
   ·by_cases hb2:b=a
    ·exact .inl hb2
    ·exact absurd ((if_neg hb).trans (if_neg hb2)) z
noncomputable def QZ (K:ai) (Pt:Addr):Sp:=λvs H Q _=>∃(a:Addr) (ns:List Int),vs=[.ref a]/\SqL K H a (ns.map V.int)/\ns.length<=63/\H Pt=some (.tbl #[])/\∀H',Q (.bl true) H'
theorem U6 {l:pQ}{q:Program}{loose:List Str}{XP:(Str->Option ah)->Heap->Prop}{YP:aU->Heap->Prop}{d:DefRec}{K:pX->ai}(k:Nat) (c Pt:Addr) (hr:Room k mT) (hn:l.most=some 63) (hdf:d.params.defaults=[])
  (hY:∀(w:aU) (h:Heap),YP w h->(K w.params).In h/\h.get? Pt=some (pY #[])) (hKP:∀p:pX,(K p).lookup Pt=none) (hC:∀p:pX,codeHdIn (K p) c Pt=true)
  (F:∀(w:aU) (mg:Str->Option ah) (fa:Addr) (h:Heap),(K w.params).In h->h.Ns mainGlobals mg->mg d.name=some (.ref fa) ->
   ∃fd:FuncData,(∀(s:Shared) (u:ah),ow s fd ⟨[u],[]⟩ [("_law_script",u)])/\∀base:Heap,(K w.params).In base->base.Ns mainGlobals mg->Bm mg base->FnOk l.prog w (K w.params) mg base CX0 k fa fd ["_law_script"] (QZ (K w.params) Pt)) :
  PySem.W.WalkO q loose XP YP l.row.toRowW d [] (λf vs=>PySem.call f vs):=by
 refine Att.attach_call hn hdf λw s₀ s₁ mg mb fa o pm cd doc a vs ns G Y ho hd hcd hmg hobj hints hlen hg=>?_
 obtain ⟨KX,hT⟩:=hY w _ Y
 obtain ⟨fd,hb,hF⟩:=F w mg fa _ KX G.T.g hmg
 exact Yv (c:=c) KX G.T.g G.T.b G.T.builtins G.T.nolimit hg hobj hints (aF hlen ⋯) hr hT (hKP w.params) (codeHd_of_K KX (hC w.params)) G.T.bmain hF hb λH hS hP=>⟨a,ns,rfl,hS,hlen,hP,λ_=>rfl⟩
theorem Fun.okC {P:Program}{w:aU}{K:ai}{mg:Str->Option ah}{base:Heap}{x qual:Str}{st:Stmt}{f c:Addr}{oc:ah}{od an:Option Addr}{osl:Array (Option ah)}{kV doc pm ct:ah}{N ps:List Str}{k:Nat}{sp:Sp}
  (l:K.lookup f=some ⟨oc,od,.func (bD x qual (jY st) (jO st) (j9 st) .none kV doc pm an (.ref c) ct),osl⟩) (cd:cz K (.ref c) qual=true) (S:FnScope N ps (j9 st)) (len:∀vs H Q E,sp vs H Q E->vs.length=ps.length)
  (hbody:∀(A:b9) (outer:List Env) (s:Shared) (H:Hp) (vs:List V) (Q:VK) (E:XK),Room k (A.deeper (ie qual (j9 st) s.heap.objs.size f (.ref c)))->sp vs H Q E ->
   ∃t,PSs (vp CX0 P w K mg base N qual (j9 st) f (.ref c) A outer s H E).nox (jO st) t/\t { nx:=λ_ H'=>Q .non H',rt:=Q } (start N vs) H) :
  FnOk P w K mg base CX0 (k+1) f (bD x qual (jY st) (jO st) (j9 st) .none kV doc pm an (.ref c) ct) ps sp:=by
 refine Yz l cd S len λA outer s H vs Q E hr hsp=>?_
 obtain ⟨t,h,q⟩:=hbody A outer s H vs Q E hr hsp
 exact ⟨t,h.nox,q⟩
theorem Cal.mkC {P:Program}{w:aU}{K:ai}{mg:Str->Option ah}{base:Heap}{k:Nat}{x:Str}{ps:List Str}{sp:Sp}{st:Stmt}{h:Heap}{f c:Addr}{oc:ah}{od an:Option Addr}{osl:Array (Option ah)}{kV doc pm ct:ah}
  (X:K.In h) (G:h.Ns mainGlobals mg) (a:aQ K mainGlobals x=some (some (.ref f)))
  (l:K.lookup f=some ⟨oc,od,.func (bD x x (jY st) (jO st) (j9 st) .none kV doc pm an (.ref c) ct),osl⟩) (cd:cz K (.ref c) x=true) (k':bK K (.ref f)=true)
  (hb:∀(kV doc pm:ah) (an:Option Addr) (cdv ct:ah) (us:List ah),us.length=ps.length->cC (bD x x (jY st) (jO st) (j9 st) .none kV doc pm an cdv ct) ⟨us,[]⟩=pure (ps.zip us))
  (ok:FnOk P w K mg base CX0 k f (bD x x (jY st) (jO st) (j9 st) .none kV doc pm an (.ref c) ct) ps sp):Cal P w K mg base k x ps sp:=by
 have F:=vQ (st:=st) l cd k'
 exact ⟨f,_,ok,F.binds hb,aM X G a,k'⟩
end L2
end
section
namespace L2
open PySem.W
noncomputable def Ite (K:ai) (a:Addr):It :=
 ⟨λi H=>∃xs x,SqL K H a xs/\xs[i]? = some x,λi H v H'=>∃t x,v = .ref t/\H t=none/\H'=upd H t (.tup [.int i,x])/\∀xs,SqL K H a xs->xs[i]? = some x,λi H=>∃xs,SqL K H a xs/\xs.length<=i⟩
theorem Yo {P:Program}{w:aU}{K:ai}{es:List Expr}{x1:Nat}{pos:Pos}(a e it:Addr) (hne:e≠it):Turn P w K (.Tuple es x1 pos) (Ite K a) [e,it] e (λi h=>∃old,IsEnum h e it i old/\h.IsListIter it a i) where
 mem:=by simp
 obj:=λi h ⟨old,st1,st2⟩ b hb=>by
  rcases List.mem_cons.mp hb with rfl | hb
  ·exact ⟨_,st1,λv z=>by
    have z':pC _=mM v:=z
    cases z'⟩
  ·have e:b=it:=by simpa using hb
   subst e
   obtain ⟨o,e,c,d⟩:=st2
   exact ⟨o,e,λv z=>by rw [d] at z;cases z⟩
 keep:=λi h h' ⟨old,st1,st2⟩ k=>⟨old,k e (by simp) _ st1,st2.at λo z=>k it (by simp) o z⟩
 item:=by
  intro X hP hw hK hc i pins s σ H E I hf st hg
  subst hP hw hK
  obtain ⟨old,st1,st2⟩:=st
  obtain ⟨xs,x,hq,hx⟩:=hg
  obtain ⟨its,rv,p,hz⟩:=I.list hq
  obtain ⟨u,hu,ru⟩:=rv.get hx
  obtain ⟨f0,f1,f2,f3,f4,f5⟩:=hf e (by simp)
  obtain ⟨g0,g1,g2,g3,g4,g5⟩:=hf it (by simp)
  have hn:H s.heap.objs.size=none:=I.hok.fresh (av _)
  refine wpAny_pyNext_enum_item st1 st2 p.isList (x:=u) (by simpa using hu) hne λh' o1 o2 o3 o4 o5=>⟨_,rfl,?_⟩
  refine wpAny_letOwnedTupleGo_enum o1 λh2 q1 sb=>?_
  have hel:e<s.heap.objs.size:=aw st1
  have kk:∀b o,b≠e->b≠it->s.heap.get? b=some o->h2.get? b=some o:=λb o n1 n2 z=>(sb.2 b n1).trans (o5 b o n1 n2 z)
  have et:h2.get? s.heap.objs.size=some { cls:=.type "tuple",data:=.seq #[.int i s.toks,u] }:=(sb.2 _ (cG hel)).trans o3
  have tne:∀b o,H b=some o->b≠e/\b≠it/\b≠s.heap.objs.size:=λb o q=>⟨λz=>(by rw [z,f0] at q;cases q),λz=>(by rw [z,g0] at q;cases q),λz=>(by rw [z,hn] at q;cases q)⟩
  have getF:∀{b:Addr} {o:HO},H b=some o->upd H s.heap.objs.size (.tup [.int i,x]) b=some o:=λ{b o} q=>by rw [ja (tne b o q).2.2];exact q
  have I1:Inv X pins σ (upd H s.heap.objs.size (.tup [.int i,x])) { s with heap:=h2,toks:=s.toks+1 }:=by
   refine I.step (g':=s.gens) (d':=s.drawn) (ch:=[e,it]) (λb hb=>?_) (λb o _ _ hc z _=>kk b o (λy=>hc (by simp [y])) (λy=>hc (by simp [y])) z) (λb o _ _ hc z _=>⟨o.slots,kk b o (λy=>hc (by simp [y])) (λy=>hc (by simp [y])) z⟩)
    (λb o hc z n=>by rw [ja (aB (aw z))];exact n) (λb o hc z=>⟨o,kk b o (λy=>hc (by simp [y])) (λy=>hc (by simp [y])) z⟩) (λ_ _ q=>getF q) (λ_ _ _ q=>getF q) (λb ps q=>⟨#[],by rw [getF q];simp⟩) (λm hm=>?_) (λb v q=>?_) I.bare
   ·rcases List.mem_cons.mp hb with rfl | hb
    ·exact ⟨f3,f1,f4,f5⟩
    ·have e:b=it:=by simpa using hb
     subst e
     exact ⟨g3,g1,g4,g5⟩
   ·obtain ⟨o,es,ep,ho,r⟩:=hm
    exact ⟨o,es,ep,kk _ o (cE f1) (cE g1) ho,r⟩
   ·by_cases hb:b=s.heap.objs.size
    ·subst hb
     rw [j8] at q;cases q
     exact ⟨by show 2<=sizeLine;decide,[.int i s.toks,u],.cons ⟨_,rfl⟩ (.cons ru .nil),⟨_,et,rfl,0,rfl⟩⟩
    ·rw [ja hb] at q
     refine (I.hok b v q).stay (λc o hc z=>kk c o ?_ ?_ z) (λ_ z=>getF z) λ_ _ z=>getF z
     ·rcases hc with z | z
      ·rw [z];exact (tne b v q).1
      ·exact (tne c _ z).1
     ·rcases hc with z | z
      ·rw [z];exact (tne b v q).2.1
      ·exact (tne c _ z).2.1
  have st2':h2.IsListIter it a (i+1):=o2.at λo z=>(sb.2 it (cE hne)).trans z
  refine ⟨.ref s.heap.objs.size,_,I1,rfl,⟨_,x,rfl,hn,rfl,λys hy=>by rw [I.list_inj hy hq];exact hx⟩,⟨u,?_,st2'⟩,λb hb=>?_⟩
  ·have:((i+1:Nat):Int)=(i:Int)+1:=by push_cast;rfl
   rw [this]
   exact q1
  ·rcases List.mem_cons.mp hb with rfl | hb
   ·rw [ja (aB hel)];exact f0
   ·have e:b=it:=by simpa using hb
    subst e
    obtain ⟨o,z,_⟩:=st2
    rw [ja (aB (aw z))];exact g0
 done:=by
  intro X hP hw hK hc i pins s σ H E I hf st hg
  subst hP hw hK
  obtain ⟨old,st1,st2⟩:=st
  obtain ⟨xs,hq,hx⟩:=hg
  obtain ⟨its,rv,p,hz⟩:=I.list hq
  obtain ⟨g0,g1,g2,g3,g4,g5⟩:=hf it (by simp)
  have hl:=rv.length
  exact wpAny_pyNext_enum_end (I.ok.hd hc) st1 st2 p.isList (by simp;omega) λh' eb=>⟨rfl,I.turned (t':=s.toks) (λb o hb e=>eb b o hb e) g0 g1 g3 g4 g5⟩
 self:=λ_ _ _ _ _ ⟨old,st1,_⟩ h=>oK st1 h
section
variable {X:Cx}
noncomputable def WP (K:ai) (ta:TA):TI:=λσ H R=>ta σ H λvs H1=>∃a,vs=[.ref a]/\(∃xs,SqL K H1 a xs)/\R (Ite K a) H1
theorem Jb {es:List Expr}{x1:Nat}{tpos:Pos}{l:Expr}{ta:TA}{p pos:Pos}(K:ai) (hg:Gl X "enumerate") (hm:X.mg "enumerate" = none) (ha:PA X [l] ta) (hs:aN [l] X.env=[(false,eval l X.env)]:=by rfl) (hK:X.K=K:=by rfl) :
  PI X (.Tuple es x1 tpos) (.Call (.Name "enumerate" p) [l] [] pos) (WP K ta):=by
 subst hK
 intro pins s σ H R I h
 refine Call_ (yS I hg hm boot_enumerate (cF (thn (ha pos pins s σ H _ I h) λus s1 ⟨vs,H1,I1,r1,q1⟩=>?_) hs rfl))
 obtain ⟨a,e,⟨xs,hq⟩,q⟩:=q1
 subst e
 obtain ⟨u,rfl,ru⟩:=y7 r1
 cases ru
 obtain ⟨its,rv,pl,hz⟩:=I1.list hq
 refine call_enumerate_list pl.isList λh' i1 i2 i3 kk=>?_
 refine oK i1 ?_
 have I2:Inv X pins σ H1 { s1 with heap:=h',toks:=s1.toks }:=I1.kept kk
 refine ⟨_,[s1.heap.objs.size+1,s1.heap.objs.size],_,_,H1,rfl,I2,Yo a _ _ (by exact Nat.succ_ne_self _),⟨.none,i1,i2⟩,λb hb=>?_,q⟩
 rcases List.mem_cons.mp hb with rfl | hb
 ·exact I1.fpOk (dH _) (I1.hok.fresh (dH _))
 ·have e:b=s1.heap.objs.size:=by simpa using hb
  subst e
  exact I1.fpOk (av _) (I1.hok.fresh (av _))
end
theorem Y7 {K:ai}{a acc:Addr}{xs:List V}{g:TG}{ti:TT}{te:TE}{R:Hp->Prop}{σ:St}{H:Hp}(Pv:Nat->St->Hp->Prop) (h0:Pv 0 σ H) (hl:∀i σ H,i<=xs.length->Pv i σ H->SqL K H a xs)
  (hs:∀i x σ H t,xs[i]? = some x->Pv i σ H->H t=none->g (.ref t) σ (upd H t (.tup [.int i,x])) λσ3 H3=>ti σ3 H3 λok H4=>if ok=true then te σ3 H4 λv H5=>∃ys,H5 acc=some (.lst ys)/\ys.length<sizeLine/\Pv (i+1) σ3 (upd H5 acc (.lst (ys++[v]))) else Pv (i+1) σ3 H4)
  (hd:∀σ H,Pv xs.length σ H->R H) :
  ∃W:Nat->Nat->St->Hp->Prop,(∃m,W 0 m σ H)/\∀i m σ' H',W i m σ' H' ->
   ((Ite K a).stop i H'/\R H')\/((Ite K a).go i H'/\∃NX:St->Hp->Prop,(∀σ2 H2,NX σ2 H2->∃m',m'<m/\W (i+1) m' σ2 H2) /\
    ∀x H2,(Ite K a).yld i H' x H2->g x σ' H2 λσ3 H3=>ti σ3 H3 λok H4=>if ok=true then te σ3 H4 λv H5=>∃ys,H5 acc=some (.lst ys)/\ys.length<sizeLine/\NX σ3 (upd H5 acc (.lst (ys++[v]))) else NX σ3 H4):=by
 refine ⟨λi m σ H=>m=xs.length-i/\i<=xs.length/\Pv i σ H,⟨xs.length,by simp,aO _,h0⟩,?_⟩
 rintro i m σ H ⟨rfl,hi,p⟩
 have q:=hl i σ H hi p
 by_cases hlt:i<xs.length
 ·refine .inr ⟨⟨xs,xs[i],q,by simp [hlt]⟩,Pv (i+1),λσ' H' p'=>⟨xs.length-(i+1),∅,rfl,hlt,p'⟩,λv H' y=>?_⟩
  obtain ⟨t,x,rfl,hn,rfl,y⟩:=y
  exact hs i x σ H t (y xs q) p hn
 ·have e:i=xs.length:=∅
  subst e
  exact .inl ⟨⟨xs,q,av _⟩,hd σ H p⟩
theorem Q0 {K:ai}{a:Addr}{xs:List V}{g:TG}{tb:TS}{D:Ends}{σ:St}{H:Hp}(Pv:Nat->St->Hp->Prop) (h0:Pv 0 σ H) (hl:∀i σ H,i<=xs.length->Pv i σ H->SqL K H a xs)
  (hs:∀i x σ H t,xs[i]? = some x->Pv i σ H->H t=none->g (.ref t) σ (upd H t (.tup [.int i,x])) λσ2 H2=>tb { D with nx:=Pv (i+1),ct:=Pv (i+1),bk:=D.nx } σ2 H2) (hd:∀σ H,Pv xs.length σ H->D.nx σ H) :
  ∃W:Nat->Nat->St->Hp->Prop,(∃m,W 0 m σ H)/\∀i m σ H,W i m σ H ->
   ((Ite K a).stop i H/\D.nx σ H)\/((Ite K a).go i H/\∃N:St->Hp->Prop,(∀σ' H',N σ' H'->∃m',m'<m/\W (i+1) m' σ' H')/\∀x H',(Ite K a).yld i H x H'->g x σ H' λσ2 H2=>tb { D with nx:=N,ct:=N,bk:=D.nx } σ2 H2):=by
 refine ⟨λi m σ H=>m=xs.length-i/\i<=xs.length/\Pv i σ H,⟨xs.length,by simp,aO _,h0⟩,?_⟩
 rintro i m σ H ⟨rfl,hi,p⟩
 have q:=hl i σ H hi p
 by_cases hlt:i<xs.length
 ·refine .inr ⟨⟨xs,xs[i],q,by simp [hlt]⟩,Pv (i+1),λσ' H' p'=>⟨xs.length-(i+1),∅,rfl,hlt,p'⟩,λv H' y=>?_⟩
  obtain ⟨t,x,rfl,hn,rfl,y⟩:=y
  exact hs i x σ H t (y xs q) p hn
 ·have e:i=xs.length:=∅
  subst e
  exact .inl ⟨⟨xs,q,av _⟩,hd σ H p⟩
end L2
end
section
namespace L2
open PySem.W
theorem gR:∀(l:List Int),(∀n∈l,0<=n/\n<=2 ^ 20)->0<=l.sum/\l.sum<=2 ^ 20*l.length
 | [],_=>by simp
 | n::l,h=>by
  have ih:=gR l λm hm=>h m (aK _ hm)
  have h0:=h n bh
  rw [nv,bq]
  constructor
  ·omega
  ·push_cast
   omega
section
variable {X:Cx}
theorem wW (K:ai) (hc:X.calm=true) (hK:X.K=K:=by rfl):qP X (.builtin "sum") (λxs H Q=>∃(p:Addr) (ns:List Int),xs=[.ref p]/\SqL K H p (ns.map V.int)/\ns.length<=1000/\(∀n∈ns,0<=n/\n<=2 ^ 20)/\Q (.int ns.sum) H):=by
 subst hK
 intro pins s σ H xs us Q I r h
 obtain ⟨p,ns,rfl,hq,hl,hb,q⟩:=h
 obtain ⟨u,rfl,ru⟩:=y7 r
 cases ru
 obtain ⟨its,rv,pl,hz⟩:=I.list hq
 have hI:=zh rv
 have hlen:=hI.length
 have hne:p≠s.heap.objs.size:=by
  obtain ⟨o,n,e,_⟩:=id pl
  exact aB (aw e)
 refine call_sum_walk (eK pl.isList ?_)
 refine ⟨s.heap.objs.size,_,_,_,_,_,λi=>ns.getD i 0,rfl,Walks.list (show (X.A.in1).handled=none from I.ok.hd hc) s.heap.objs.size p hne its.toArray,⟨⟨_,aA _ rfl,rfl,rfl⟩,pl.isList.at λo e=>ak _ e⟩,?_,?_,?_,?_⟩
 ·intro b hb'
  have hps:p<s.heap.objs.size:=by
   obtain ⟨o,n,e,_⟩:=id pl
   exact aw e
  show b<(s.heap.push _).objs.size
  rw [cx]
  rcases List.mem_cons.mp hb' with rfl | hb'
  ·exact fV _
  ·have e:b=p:=by simpa using hb'
   subst e
   exact c5 hps
 ·intro i v hP
  have hP':its[i]? = some v:=by simpa using hP
  have hi:i<its.length:=(List.getElem?_eq_some_iff.mp hP').1
  obtain ⟨t,e⟩:=Jk hI hi
  rw [e] at hP'
  refine ⟨t,?_⟩
  show v=iD (ns.getD i 0) t
  rw [ao,ag ∅]
  exact (bg hP').symm
 ·intro j hj
  have hj':j<ns.length:=by
   have:its.toArray.size=its.length:=by simp
   omega
  constructor
  ·show InLong (ns.getD j 0)
   rw [ao,ag hj']
   have:=hb _ (bW hj')
   show -(2 ^ 63)<=ns[j]/\ns[j]<2 ^ 63
   omega
  ·rw [preSum_getD]
   have:=gR (ns.take (j+1)) λn hn=>hb n (List.mem_of_mem_take hn)
   have hl2:(ns.take (j+1)).length<=1000:=by rw [aT];omega
   show -(2 ^ 63)<=_/\_<2 ^ 63
   omega
 ·intro h' tk t' hk
  rw [preSum_getD,cg (by simp;omega)]
  refine ⟨.int ns.sum,H,I.kept (t':=tk) λb o eo=>hk b o (by
   intro z
   have:=List.mem_singleton.mp z
   subst this
   exact absurd (aw eo) (cw _)) (ak _ eo),⟨t',rfl⟩,q⟩
theorem qQ (K:ai) (h:X.K=K:=by rfl):qP X (.type "tuple") (λxs H Q=>∃p ys,xs=[.ref p]/\SqL K H p ys/\New H (.tup ys) Q):=by
 subst h
 exact hU.weak λ_ _ _ ⟨p,ys,h1,h2,q⟩=>⟨p,ys,h1,.inl ⟨h2,q.at⟩⟩
end
end L2
end
section
namespace L2
open PySem.W
structure Nb2 (mg:Str->Option ah):Prop extends Nb mg where
 b_enumerate:mg "enumerate" = none
 b_sorted:mg "sorted" = none
 b_sum:mg "sum" = none
noncomputable abbrev Rch:=Int×List Int
noncomputable def tos (rs:List Rch):List Int:=rs.map (·.1)
noncomputable def xX (rs:List Rch) (r:Nat):Int:=(rs.getD r (-1,[])).1
noncomputable def zX (rs:List Rch) (r:Nat):List Int:=(rs.getD r (-1,[])).2
noncomputable def xH (i:Nat) (t:Int):Bool:=if i=0 then decide (t = -1) else decide (0<=t/\t<i)
noncomputable def okR (i:Nat) (r:Rch):Bool:=xH i r.1 && decide (1<=(r.2.length:Int)/\(r.2.length:Int)<=12) && r.2.all λx=>decide (0<=x/\x<=99)
noncomputable def uI (rs:List Rch):Bool:=(aV rs.length).all λi=>okR i (rs.getD i (-1,[]))
noncomputable def xi (rs:List Rch):Prop:=∀i,i<rs.length->xH i (xX rs i)=true
noncomputable def jU (rs:List Rch) (h:Nat):Bool:=!decide ((h:Int)∈tos rs)
noncomputable def jw (rs:List Rch):List Nat:=(aV rs.length).filter (jU rs)
noncomputable def vt (rs:List Rch):Nat->Nat->List Int
 | 0,_=>[]
 | f+1,r=>(r:Int)::(if xX rs r<0 then [] else vt rs f (xX rs r).toNat)
noncomputable def qA (rs:List Rch) (r:Nat):List Int:=vt rs (r+1) r
noncomputable def jG (rs:List Rch) (way:List Int):Int:=(way.map λr=>((zX rs r.toNat).length:Int)).sum
noncomputable def zH (rs:List Rch):Bool:=decide (1<=(rs.length:Int)/\(rs.length:Int)<=8) && (uI rs && (decide (((jw rs).length:Int)<=6) && (jw rs).all λh=>decide (jG rs (qA rs h)<=30)))
theorem kE {i:Nat}{t:Int}(h:xH i t=true):t<i/\(-1<=t)/\(t<0->i=0):=by
 unfold xH at h
 by_cases hi:i=0
 ·rw [if_pos hi] at h
  have:=of_decide_eq_true h
  omega
 ·rw [if_neg hi] at h
  have:=of_decide_eq_true h
  omega
theorem Y8 {i:Nat}{r:Rch}(h:okR i r=true):xH i r.1=true:=by
 unfold okR at h
 rw [ba,ba] at h
 exact h.1.1
theorem Je {rs:List Rch}(h:uI rs=true) {i:Nat}{r:Rch}(hr:rs[i]? = some r):okR i r=true:=by
 unfold uI at h
 rw [bQ] at h
 have hi:=(List.getElem?_eq_some_iff.mp hr).1
 have:=h i (List.mem_range.mpr hi)
 rw [ao,hr] at this
 exact this
theorem qp {rs:List Rch}(h:uI rs=true):xi rs:=λi hi=>by
 have:=Y8 (Je h (ag hi))
 unfold xX
 rw [ao,ag hi]
 exact this
theorem JF {rs:List Rch}{i:Nat}{r:Rch}(h:rs[i]? = some r):xX rs i=r.1:=by
 unfold xX
 rw [ao,h]
 rfl
theorem JM {rs:List Rch}{i:Nat}{r:Rch}(h:rs[i]? = some r):zX rs i=r.2:=by
 unfold zX
 rw [ao,h]
 rfl
theorem xi.lt {rs:List Rch}(L:xi rs) {r:Nat}(hr:r<rs.length):xX rs r<r:=(kE (L r hr)).1
theorem J6 {rs:List Rch}(L:xi rs):∀(f g r:Nat),r<rs.length->r<f->r<g->vt rs f r=vt rs g r
 | 0,_,_,_,h,_=>∅
 | _+1,0,_,_,_,h=>∅
 | f+1,g+1,r,hr,h1,h2=>by
  unfold vt
  by_cases ht:xX rs r<0
  ·rw [if_pos ht,if_pos ht]
  ·rw [if_neg ht,if_neg ht]
   have hl:=L.lt hr
   rw [J6 L f g (xX rs r).toNat ∅ ∅ ∅]
theorem zG {rs:List Rch}(L:xi rs) {r:Nat}(hr:r<rs.length):qA rs r=(r:Int)::(if xX rs r<0 then [] else qA rs (xX rs r).toNat):=by
 unfold qA
 rw [vt]
 by_cases ht:xX rs r<0
 ·rw [if_pos ht,if_pos ht]
 ·rw [if_neg ht,if_neg ht]
  have hl:=L.lt hr
  rw [J6 L r ((xX rs r).toNat+1) (xX rs r).toNat ∅ ∅ ∅]
theorem U8 {rs:List Rch}(r:Nat):qA rs r≠[]:=by unfold qA vt;exact λz=>nomatch z
theorem ui {rs:List Rch}(L:xi rs):∀(r:Nat),r<rs.length->(qA rs r).length<=r+1
 | r,hr=>by
  rw [zG L hr]
  by_cases ht:xX rs r<0
  ·rw [if_pos ht];simp
  ·rw [if_neg ht]
   have hl:=L.lt hr
   have:=ui L (xX rs r).toNat ∅
   rw [bq]
   omega
 termination_by r=>r
 decreasing_by omega
theorem xZ {rs:List Rch}(L:xi rs):∀(r:Nat),r<rs.length->∀x∈qA rs r,0<=x/\x<rs.length
 | r,hr,x,hx=>by
  rw [zG L hr] at hx
  rcases List.mem_cons.mp hx with rfl | hx
  ·omega
  ·by_cases ht:xX rs r<0
   ·rw [if_pos ht] at hx;cases hx
   ·rw [if_neg ht] at hx
    have hl:=L.lt hr
    exact xZ L (xX rs r).toNat ∅ x hx
 termination_by r=>r
 decreasing_by omega
theorem xA {rs:List Rch}{h:Nat}(hh:h∈jw rs):h<rs.length:=by
 have:=(List.mem_filter.mp hh).1
 exact List.mem_range.mp this
theorem x8 (rs:List Rch) (r:Int) (way:List Int):jG rs (r::way)=((zX rs r.toNat).length:Int)+jG rs way:=by
 unfold jG
 rw [b8,nv]
theorem YO {α:Type}{p:α->Bool}{l l':List α}(h:l.Perm l'):l.all p=l'.all p:=by
 rw [d7,bQ,bQ]
 exact ⟨λz x hx=>z x (h.mem_iff.mpr hx),λz x hx=>z x (h.mem_iff.mp hx)⟩
noncomputable def qj (rs:List Rch) (ws:List (List Int)):Prop:=ws.Perm ((jw rs).map (qA rs))/\(ws.map cK).Pairwise wq.kle
theorem qj.length {rs:List Rch}{ws:List (List Int)}(h:qj rs ws):ws.length=(jw rs).length:=by rw [h.1.length_eq,af]
theorem qj.mem {rs:List Rch}{ws:List (List Int)}(h:qj rs ws) {w:List Int}(hw:w∈ws):∃x∈jw rs,w=qA rs x:=by
 obtain ⟨x,hx,e⟩:=List.mem_map.mp (h.1.mem_iff.mp hw)
 exact ⟨x,hx,e.symm⟩
theorem qj.all {rs:List Rch}{ws:List (List Int)}(h:qj rs ws):(ws.map λw=>decide (jG rs w<=30)).all (λb=>b)=(jw rs).all λx=>decide (jG rs (qA rs x)<=30):=by
 rw [eV,YO h.1,eV]
 rfl
theorem yz {O:KeyOrd}:∀{l l':List O.α},l.Perm l'->l.Pairwise O.kle->l'.Pairwise O.kle->l=l'
 | [],l',h,_,_=>(List.nil_perm.mp h).symm
 | x::l,[],h,_,_=>by have:=h.length_eq;simp at this
 | x::l,y::l',h,h1,h2=>by
  have hx:=(List.pairwise_cons.mp h1)
  have hy:=(List.pairwise_cons.mp h2)
  have e:x=y:=by
   have m1:x∈y::l':=h.mem_iff.mp bh
   have m2:y∈x::l:=h.mem_iff.mpr bh
   rcases List.mem_cons.mp m1 with z | z
   ·exact z
   ·rcases List.mem_cons.mp m2 with z2 | z2
    ·exact z2.symm
    ·exact iu (hx.1 y z2) (hy.1 x z)
  subst e
  rw [yz (List.Perm.cons_inv h) hx.2 hy.2]
theorem qj.unique {rs:List Rch}{ws ws':List (List Int)}(h:qj rs ws) (h':qj rs ws'):ws=ws':=by
 have p:(ws.map cK).Perm (ws'.map cK):=(h.1.trans h'.1.symm).map _
 have e:=yz (O:=wq) p h.2 h'.2
 have e2:=congrArg (iM cK) e
 rw [bO,bO,show (cK ∘ cK:List Int->List Int)=id from funext λx=>eP x,mE,mE] at e2
 exact e2
theorem JQ (rs:List Rch) (t:Int) (hs:List Int):tos (rs++[(t,hs)])=tos rs++[t]:=by unfold tos;rw [aC];rfl
theorem uK {rs:List Rch}{x d:Rch}{i:Nat}(h:i<rs.length):(rs++[x]).getD i d=rs.getD i d:=by
 rw [ao,ao,cS h]
theorem xx {rs:List Rch}{x d:Rch}:(rs++[x]).getD rs.length d=x:=by
 rw [ao,cI (av _),Nat.sub_self]
 rfl
theorem gW {rs:List Rch}{x:Rch}(h:uI rs=true) (hx:okR rs.length x=true):uI (rs++[x])=true:=by
 unfold uI at h ⊢
 rw [bQ] at h ⊢
 intro i hi
 have hi':i<rs.length+1:=by have:=List.mem_range.mp hi;rw [az,bf] at this;exact this
 by_cases hlt:i<rs.length
 ·rw [uK hlt];exact h i (List.mem_range.mpr hlt)
 ·have e:i=rs.length:=∅
  subst e
  rw [xx];exact hx
theorem wK {rs:List Rch}{x:Rch}(L:xi rs):∀(f r:Nat),r<rs.length->vt (rs++[x]) f r=vt rs f r
 | 0,_,_=>rfl
 | f+1,r,hr=>by
  have e:xX (rs++[x]) r=xX rs r:=by unfold xX;rw [uK hr]
  unfold vt
  rw [e]
  by_cases ht:xX rs r<0
  ·rw [if_pos ht,if_pos ht]
  ·rw [if_neg ht,if_neg ht,wK L f _ (by have:=L.lt hr;omega)]
theorem vk {rs:List Rch}{x:Rch}(L:xi rs) {r:Nat}(hr:r<rs.length):qA (rs++[x]) r=qA rs r:=wK L _ r hr
theorem xS {rs:List Rch}{x:Rch}:∀(way:List Int),(∀r∈way,0<=r/\r<rs.length)->jG (rs++[x]) way=jG rs way
 | [],_=>rfl
 | r::way,h=>by
  have h0:=h r bh
  rw [x8,x8,xS way λy hy=>h y (aK _ hy)]
  congr 2
  unfold zX
  rw [uK ∅]
theorem Xp {rs:List Rch}(L:xi rs) {t:Int}(h:t∈tos rs):t+1<rs.length:=by
 unfold tos at h
 obtain ⟨r,hr,rfl⟩:=List.mem_map.mp h
 obtain ⟨i,hi,e⟩:=List.mem_iff_getElem.mp hr
 have:=L.lt hi
 rw [JF (ag hi),e] at this
 omega
theorem XI {rs:List Rch}{t:Int}{hs:List Int}(L:xi rs) (h0:0<=t) (h1:t<rs.length) :
  (jw (rs++[(t,hs)])).length=if t∈tos rs then (jw rs).length+1 else (jw rs).length:=by
 unfold jw
 rw [az,bf,ez,cc,az]
 have e1:(fC (jU (rs++[(t,hs)])) [rs.length]).length=1:=by
  have:jU (rs++[(t,hs)]) rs.length=true:=by
   unfold jU
   rw [JQ,decide_eq_false]
   ·rfl
   ·intro z
    rcases List.mem_append.mp z with z | z
    ·have:=Xp L z;omega
    ·have:(rs.length:Int)=t:=by simpa using z
     omega
  simp [this]
 rw [e1]
 have e2:∀h,jU (rs++[(t,hs)]) h=(jU rs h && !decide ((h:Int)=t)):=λh=>by
  unfold jU
  rw [JQ]
  by_cases a:(h:Int)∈tos rs
  ·rw [decide_eq_true (cB _ a),decide_eq_true a];rfl
  ·rw [decide_eq_false a]
   by_cases b:(h:Int)=t
   ·rw [decide_eq_true (aE _ (by simp [b])),decide_eq_true b];rfl
   ·rw [decide_eq_false (λz=>(List.mem_append.mp z).elim a λy=>b (by simpa using y)),decide_eq_false b];rfl
 have e3:fC (jU (rs++[(t,hs)])) (aV rs.length)=fC (λh:Nat=>!decide ((h:Int)=t)) (fC (jU rs) (aV rs.length)):=by
  rw [List.filter_filter]
  congr 1
  funext h
  rw [e2,Bool.and_comm]
 rw [e3]
 have nd:(fC (jU rs) (aV rs.length)).Nodup:=List.Nodup.sublist List.filter_sublist List.nodup_range
 generalize hl:fC (jU rs) (aV rs.length)=l at nd
 have cnt:∀(l:List Nat),l.Nodup->(fC (λh:Nat=>!decide ((h:Int)=t)) l).length=if t.toNat∈l then l.length-1 else l.length:=by
  intro l
  induction l with
  | nil=>intro _;rfl
  | cons x l ih =>
   intro nd
   have nd':=List.nodup_cons.mp nd
   have ih:=ih nd'.2
   by_cases b:(x:Int)=t
   ·have hx:x=t.toNat:=∅
    rw [fD (by simp [b]),ih,if_neg (by rw [<- hx];exact nd'.1),if_pos (by rw [hx];exact bh)]
    simp
   ·have hx:t.toNat≠x:=∅
    rw [fE (by simp [b]),bq,ih]
    by_cases m:t.toNat∈l
    ·rw [if_pos m,if_pos (aK _ m),bq]
     have:0<l.length:=fO m
     omega
    ·rw [if_neg m,if_neg (λz=>(List.mem_cons.mp z).elim hx m)]
     simp
 rw [cnt l nd]
 have hm:t.toNat∈l↔¬t∈tos rs:=by
  rw [<- hl,List.mem_filter,List.mem_range]
  unfold jU
  have e:((t.toNat:Nat):Int)=t:=∅
  rw [e]
  constructor
  ·rintro ⟨_,z⟩ y
   rw [decide_eq_true y] at z
   cases z
  ·intro z
   exact ⟨∅,by rw [decide_eq_false z];rfl⟩
 by_cases m:t∈tos rs
 ·rw [if_pos m,if_neg (by rw [hm];exact λz=>z m)]
 ·rw [if_neg m,if_pos (by rw [hm];exact m)]
  have:0<l.length:=fO (hm.mpr m)
  omega
structure Grown (rs:List Rch):Prop where
 ok:uI rs=true
 heads:(jw rs).length<=6
 deep:∀i,i<rs.length->jG rs (qA rs i)<=30
theorem Grown.snoc {rs:List Rch}{t:Int}{hs:List Int}(G:Grown rs) (h0:0<=t) (h1:t<rs.length) (hx:okR rs.length (t,hs)=true) (hh:t∈tos rs->(jw rs).length<6) (hd:jG rs (qA rs t.toNat)+hs.length<=30):Grown (rs++[(t,hs)]):=by
 have L:=qp G.ok
 have ok':=gW G.ok hx
 refine ⟨ok',?_,λi hi=>?_⟩
 ·rw [XI L h0 h1]
  split
  ·rename_i m;have:=hh m;omega
  ·exact G.heads
 ·rw [az,bf] at hi
  by_cases hlt:i<rs.length
  ·rw [vk L hlt,xS _ (xZ L i hlt)]
   exact G.deep i hlt
  ·have e:i=rs.length:=∅
   subst e
   have L':=qp ok'
   have et:xX (rs++[(t,hs)]) rs.length=t:=by unfold xX;rw [xx]
   have eh:zX (rs++[(t,hs)]) rs.length=hs:=by unfold zX;rw [xx]
   rw [zG L' (by rw [az,bf];omega),x8,bL,eh,et,if_neg ∅,vk L ∅,xS _ (xZ L _ ∅)]
   omega
theorem Grown.good {rs:List Rch}(G:Grown rs) (h1:1<=rs.length) (h8:rs.length<=8):zH rs=true:=by
 unfold zH
 rw [decide_eq_true (show 1<=(rs.length:Int)/\(rs.length:Int)<=8 by omega),G.ok,decide_eq_true (show ((jw rs).length:Int)<=6 by have:=G.heads;omega),eE,eE,eE,bQ]
 intro h hh
 exact decide_eq_true (G.deep h (xA hh))
theorem Grown.deep_snoc {rs:List Rch}{t:Int}{hs:List Int}(G:Grown rs) (h0:0<=t) (h1:t<rs.length) (hx:okR rs.length (t,hs)=true):jG (rs++[(t,hs)]) (qA (rs++[(t,hs)]) rs.length)=jG rs (qA rs t.toNat)+hs.length:=by
 have L:=qp G.ok
 have L':=qp (gW G.ok hx)
 have et:xX (rs++[(t,hs)]) rs.length=t:=by unfold xX;rw [xx]
 have eh:zX (rs++[(t,hs)]) rs.length=hs:=by unfold zX;rw [xx]
 rw [zG L' (by rw [az,bf];omega),x8,bL,eh,et,if_neg ∅,vk L ∅,xS _ (xZ L _ ∅)]
 omega
noncomputable def jy (H H':Hp):Prop:=∀p xs,H p=some (.tup xs)->H' p=some (.tup xs)
theorem jy.same {H H':Hp}(s:jq H H'):jy H H':=λ_ _ h=>s _ _ h
theorem jy.trans {H H1 H2:Hp}(a:jy H H1) (b:jy H1 H2):jy H H2:=λp xs h=>b p xs (a p xs h)
theorem jy.ext {b:Addr}{H H':Hp}(e:Ext b H H') (h:∀xs,H b≠some (.tup xs)):jy H H':=λp xs q=>e _ _ q λz=>h xs (z ▸ q)
theorem jy.lst {b:Addr}{H H':Hp}{xs:List V}(e:Ext b H H') (h:H b=some (.lst xs)):jy H H':=.ext e λys z=>by rw [h] at z;cases z
theorem jy.new {b:Addr}{H H':Hp}(e:Ext b H H') (h:H b=none):jy H H':=.ext e λys z=>by rw [h] at z;cases z
theorem jy.tbl {b:Addr}{H H':Hp}{ps:Array ah}(e:Ext b H H') (h:H b=some (.tbl ps)):jy H H':=.ext e λys z=>by rw [h] at z;cases z
noncomputable def JK (H:Hp) (v:V) (r:Rch):Prop:=∃p g,v=V.ref p/\H p=some (.tup [.int r.1,.ref g])/\H g=some (.tup (r.2.map V.int))
noncomputable def qe (H:Hp) (vs:List V) (rs:List Rch):Prop:=dJ (JK H) vs rs
theorem JK.keep {H H':Hp}{v:V}{r:Rch}(k:jy H H') (h:JK H v r):JK H' v r:=by
 obtain ⟨p,g,e,h1,h2⟩:=h
 exact ⟨p,g,e,k _ _ h1,k _ _ h2⟩
theorem qe.keep {H H':Hp}{vs:List V}{rs:List Rch}(k:jy H H') (h:qe H vs rs):qe H' vs rs:=Paired.mapP h λ_ _ z=>z.keep k
theorem qe.length {H:Hp}{vs:List V}{rs:List Rch}(h:qe H vs rs):vs.length=rs.length:=aX h
theorem qe.get {H:Hp}{vs:List V}{rs:List Rch}{i:Nat}{v:V}(h:qe H vs rs) (e:vs[i]? = some v):∃r,rs[i]? = some r/\JK H v r:=Paired.get h e
theorem qe.at {H:Hp}{vs:List V}{rs:List Rch}{i:Nat}{r:Rch}(h:qe H vs rs) (e:rs[i]? = some r):∃v,vs[i]? = some v/\JK H v r:=by
 have hi:i<vs.length:=by rw [h.length];exact (List.getElem?_eq_some_iff.mp e).1
 obtain ⟨r',e2,q⟩:=h.get (ag hi)
 rw [e] at e2
 cases e2
 exact ⟨_,ag hi,q⟩
theorem qe.snoc {H:Hp}{vs:List V}{rs:List Rch}{v:V}{r:Rch}(h:qe H vs rs) (q:JK H v r):qe H (vs++[v]) (rs++[r]):=dh h q
noncomputable def y8 (H:Hp) (vs:List V) (ws:List (List Int)):Prop:=dJ (λv (w:List Int)=>∃a,v=V.ref a/\H a=some (.tup (w.map V.int))) vs ws
theorem y8.keep {H H':Hp}{vs:List V}{ws:List (List Int)}(k:jy H H') (h:y8 H vs ws):y8 H' vs ws:=Paired.mapP h λ_ _ ⟨a,e,q⟩=>⟨a,e,k _ _ q⟩
theorem y8.length {H:Hp}{vs:List V}{ws:List (List Int)}(h:y8 H vs ws):vs.length=ws.length:=aX h
theorem ue (x:Int) (l:List Int):inV (.int x) (l.map V.int)=decide (x∈l):=by
 unfold inV
 induction l with
 | nil=>rfl
 | cons y l ih =>
  rw [b8,fe,ih]
  by_cases e:x=y
  ·subst e
   rw [decide_eq_true (bh (a:=x))]
   simp [eqV]
  ·by_cases m:x∈l
   ·rw [decide_eq_true m,decide_eq_true (aK _ m),Bool.or_true]
   ·rw [decide_eq_false m,decide_eq_false (λz=>(List.mem_cons.mp z).elim e m),Bool.or_false]
    simp [eqV]
    exact λz=>e z.symm
theorem vc (l:List Int):(l.map V.int).all uc=true:=by
 rw [eV,bQ]
 intro x _
 rfl
end L2
end
section
namespace L2
open PySem.W
section
variable {prog:Program}{w:aU}{A:b9}{E:ah->Shared->Prop}{s:Shared}
end
end L2
end
section
namespace L2
open PySem.W
section
variable {X:Cx}
end
end L2
end
section
namespace L2
open PySem.W
end L2
end
section
namespace L2
open PySem.W
section
variable {s:Shared}{A:b9}{prog:Program}{w:aU}{E:ah->Shared->Prop}
theorem WM {it t:Addr}{k:Nat}{its:Array ah}{v:ah}{Q:ah->Shared->Prop}(q:s.heap.IsTupleIter it t k) (p:s.heap.IsTuple t its) (e:its[k]? = some v)
  (z:∀g,g.IsTupleIter it t (k+1)->dX it s.heap g->Q v { s with heap:=g }):ay (aD prog w) A (bB (.ref it)) Q E s:=by
 obtain ⟨ob,gb,cb,db⟩:=id q;obtain ⟨ot,gt,_,nt,dt⟩:=p;unfold bB
 refine aa (bP (name:=aj "__next__") q.typeIs dr (cf dr q.typeIs iC ?_ (ik _)))
 show ay _ _ (md (.ref it) 0 >>= _) _ _ s;refine aa (bw gb db (x:=.ref t) rfl ?_)
 show ay _ _ (if (b7 t == aS)=true then _ else _) _ _ s;rw [if_neg (show ¬((b7 t == aS)=true) from ar)]
 show ay _ _ (md (.ref it) 1 >>= _) _ _ s;refine aa (bw gb db (x:=.int k 0) rfl ?_)
 show ay _ _ (pe (.ref t) >>= _) _ _ s;refine aa (cM gt dt ?_)
 simp only [bL,e]
 refine aa (eQ gb db (by simp) (wpAny_pure ⟨v,rfl,wpAny_pure (z _ ⟨_,dz _ gb (eI (dZ db _)),(oM ..).trans cb,by rw [dZ db];simp [c6]⟩ (mX ..))⟩))
theorem WE {it t:Addr}{k:Nat}{its:Array ah}{Q:ah->Shared->Prop}(hh:A.handled=none) (q:s.heap.IsTupleIter it t k) (p:s.heap.IsTuple t its) (e:its[k]? = none)
  (z:∀g x,ib it s.heap g->(∃o,g.get? x=some o/\o.cls = .type "StopIteration")->E (.ref x) { s with heap:=g }):ay (aD prog w) A (bB (.ref it)) Q E s:=by
 obtain ⟨ob,gb,cb,db⟩:=id q;obtain ⟨ot,gt,_,nt,dt⟩:=p;unfold bB
 refine aa (bP (name:=aj "__next__") q.typeIs dr (cf dr q.typeIs iC ?_ (ik _)))
 show ay _ _ (md (.ref it) 0 >>= _) _ _ s;refine aa (bw gb db (x:=.ref t) rfl ?_)
 show ay _ _ (if (b7 t == aS)=true then _ else _) _ _ s;rw [if_neg (show ¬((b7 t == aS)=true) from ar)]
 show ay _ _ (md (.ref it) 1 >>= _) _ _ s;refine aa (bw gb db (x:=.int k 0) rfl ?_)
 show ay _ _ (pe (.ref t) >>= _) _ _ s;refine aa (cM gt dt ?_)
 simp only [bL,e]
 refine aa (fq (aa (eQ gb db (by simp) ?_)))
 show ay _ _ (sV (.type "StopIteration") [] >>= _) _ _ _;refine aa ?_;simp only [sV,newTuple]
 refine aa (bx ?_ (by size_fits));refine aa (m:=iN _ _) (mF (a:=aS) (by first | rfl | (simp only [iN];rfl)) ?_)
 refine bx ?_ (by size_fits);simp only [raiseNew];refine aa (sj ?_);first | rw [hh] | rw [show A.in1.handled=none from hh]
 exact aa (wpAny_pure (wpAny_throw (z _ _ (((mX ..).extBut.push _).push _) ⟨_,aA _ rfl,rfl⟩)))
structure Feeds (prog:Program) (w:aU) (i l:Addr) (xs:Array ah) (S:Nat->Heap->Prop):Prop where
 keep:∀k h h',S k h->(∀o,h.get? i=some o->h'.get? i=some o)->(∀o,h.get? l=some o->h'.get? l=some o)->S k h'
 obj:∀k h,S k h->∃o,h.get? i=some o/\∀v,o.data≠.cell v
 item:∀(A:b9) (E:ah->Shared->Prop) (k:Nat) (x:ah) (s:Shared) (Q:ah->Shared->Prop),S k s.heap->xs[k]? = some x->(∀g,S (k+1) g->dX i s.heap g->Q x { s with heap:=g })->ay (aD prog w) A (bB (.ref i)) Q E s
 done:∀(A:b9) (E:ah->Shared->Prop) (k:Nat) (s:Shared) (Q:ah->Shared->Prop),A.handled=none->S k s.heap->xs[k]? = none->(∀g x,ib i s.heap g->(∃o,g.get? x=some o/\o.cls = .type "StopIteration")->E (.ref x) { s with heap:=g })->ay (aD prog w) A (bB (.ref i)) Q E s
theorem Feeds.but {i l b:Addr}{xs:Array ah}{S:Nat->Heap->Prop}(f:Feeds prog w i l xs S) {k:Nat}{h h':Heap}(q:S k h) (sb:dX b h h') (n1:i≠b) (n2:l≠b):S k h':=f.keep k h h' q (λo e=>sb.extBut _ _ n1 e) λo e=>sb.extBut _ _ n2 e
theorem Xi {i l:Addr}{xs:Array ah}(n:l≠i):Feeds prog w i l xs λk h=>h.IsListIter i l k/\h.IsList l xs where
 keep:=λk h h' q k1 k2=>⟨q.1.at λo e=>k1 o e,q.2.at λo e=>k2 o e⟩
 obj:=λk h q=>by obtain ⟨o,e,_,d⟩:=q.1;exact ⟨o,e,λv z=>by rw [d] at z;cases z⟩
 item:=λA E k x s Q q e z=>wpAny_nextOf_list_item q.1 q.2 e λg q1 sb=>z g ⟨q1,q.2.extBut sb.extBut n⟩ sb
 done:=λA E k s Q hh q e z=>wpAny_nextOf_list_end hh q.1 q.2 e z
theorem Yp {i l:Addr}{xs:Array ah}(n:l≠i):Feeds prog w i l xs λk h=>h.IsTupleIter i l k/\h.IsTuple l xs where
 keep:=λk h h' q k1 k2=>⟨q.1.at λo e=>k1 o e,let ⟨o,e,r⟩:=q.2;⟨o,k2 o e,r⟩⟩
 obj:=λk h q=>by obtain ⟨o,e,_,d⟩:=q.1;exact ⟨o,e,λv z=>by rw [d] at z;cases z⟩
 item:=λA E k x s Q q e z=>WM q.1 q.2 e λg q1 sb=>z g ⟨q1,q.2.extBut sb.extBut n⟩ sb
 done:=λA E k s Q hh q e z=>WE hh q.1 q.2 e z
theorem Vb {z TI TO i1 i2 l1 l2:Addr}{k1 k2:Nat}{xs ys:Array ah}{x y a b:ah}{S1 S2:Nat->Heap->Prop}{Q:ah->Shared->Prop}(D:mG z TI TO i1 i2 l1 l2) (f1:Feeds prog w i1 l1 xs S1) (f2:Feeds prog w i2 l2 ys S2)
  (g0:iO s.heap z TI TO .none) (gI:dN s.heap TI (.ref i1) (.ref i2)) (gO:dN s.heap TO a b) (q1:S1 k1 s.heap) (q2:S2 k2 s.heap) (ex:xs[k1]? = some x) (ey:ys[k2]? = some y)
  (R:∀g,iO g z TI TO (c6 s.heap.objs.size)->dN g TO x y->S1 (k1+1) g->S2 (k2+1) g->dN g s.heap.objs.size x y->g.objs.size=s.heap.objs.size+1 ->
   (∀c o,c≠z->c≠TO->c≠i1->c≠i2->s.heap.get? c=some o->g.get? c=some o)->Q (.ref s.heap.objs.size) { s with heap:=g }):ay (aD prog w) A (dS.«zip.__next__» ⟨[.ref z],[]⟩) (λfin s'=>∃v,fin = .done (.ret v)/\Q v s') E s:=by
 show ay _ _ (md (.ref z) 2 >>= _) _ _ _;refine aa (bw g0 rfl (x:=.bool false) rfl ?_)
 show ay _ _ (md (.ref z) 3 >>= _) _ _ _;refine aa (bw g0 rfl (x:=.ref TI) rfl ?_)
 refine aa (cM gI rfl ?_);show ay _ _ (cA (.ref z) >>= _) _ _ _
 refine aa ?_;unfold cA;refine aa (bw g0 rfl (x:=.none) rfl (wpAny_pure ?_));simp only [if_true]
 refine aa (fq ?_);refine aa (bw g0 rfl (x:=.ref TO) rfl ?_)
 refine aa (du g0 (by simp) λh1 g1 e1=>?_)
 replace g1:iO h1 z TI TO .ellipsis:=g1
 refine aa ?_;simp only [pf,pR,ij,rQ]
 refine aa (aa (lh ?_));show ay _ _ (bB (.ref i1) >>= _) _ _ _
 refine aa (f1.item _ _ k1 x _ _ (f1.but q1 e1 D.i1z D.l1z) ex λh2 q1' e2=>wpAny_pure ?_)
 have gO2:dN h2 TO a b:=e2.extBut _ _ D.TOi1 (e1.extBut _ _ D.TOz gO)
 refine aa (cM gO2 rfl ?_);refine aa (ic gO2 λh3 gO3 e3=>?_)
 replace gO3:dN h3 TO x b:=gO3
 refine aa (mD (wpAny_pure ?_));refine aa (aa (lh ?_));show ay _ _ (bB (.ref i2) >>= _) _ _ _
 refine aa (f2.item _ _ k2 y _ _ (f2.but (f2.but (f2.but q2 e1 D.i2z D.l2z) e2 D.i12.symm D.l2i1) e3 D.TOi2.symm D.l2TO) ey λh4 q2' e4=>wpAny_pure ?_)
 have gO4:dN h4 TO x b:=e4.extBut _ _ D.TOi2 gO3
 refine aa (cM gO4 rfl ?_);refine aa (ic gO4 λh5 gO5 e5=>?_)
 replace gO5:dN h5 TO x y:=gO5
 refine aa (mD (wpAny_pure (wpAny_pure ?_)));refine aa (cM gO5 rfl ?_);refine aa (iL ?_)
 have sz:h5.objs.size=s.heap.objs.size:=by rw [e5.1,e4.1,e3.1,e2.1,e1.1]
 have g5:iO h5 z TI TO .ellipsis:=e5.extBut _ _ D.TOz.symm (e4.extBut _ _ D.i2z.symm (e3.extBut _ _ D.TOz.symm (e2.extBut _ _ D.i1z.symm g1)))
 have k5:∀c o,c≠z->c≠TO->c≠i1->c≠i2->s.heap.get? c=some o->h5.get? c=some o:=λc o n1 n2 n3 n4 e=>e5.extBut _ _ n2 (e4.extBut _ _ n4 (e3.extBut _ _ n2 (e2.extBut _ _ n3 (e1.extBut _ _ n1 e))))
 have q15:S1 (k1+1) h5:=f1.but (f1.but (f1.but q1' e3 D.TOi1.symm D.l1TO) e4 D.i12 D.l1i2) e5 D.TOi1.symm D.l1TO
 have q25:S2 (k2+1) h5:=f2.but q2' e5 D.TOi2.symm D.l2TO
 have lz:z<h5.objs.size:=aw g5
 show ay _ _ (eZ (.ref z) (.ref h5.objs.size) >>= _) _ _ _;refine aa ?_;unfold eZ
 have g6:iO (h5.push { cls:=.type "tuple",data:=.seq #[x,y] }) z TI TO .ellipsis:=ak _ g5
 refine aa (du g6 (by simp) λh7 g7 e7=>?_)
 replace g7:iO h7 z TI TO (c6 h5.objs.size):=g7
 refine du g7 (by simp) λh8 g8 e8=>?_
 replace g8:iO h8 z TI TO (c6 h5.objs.size):=g8
 have up:∀c o,c≠z->h5.get? c=some o->h8.get? c=some o:=λc o n e=>e8.extBut _ _ n (e7.extBut _ _ n (ak _ e))
 have gT:dN h8 h5.objs.size x y:=e8.extBut _ _ (cG lz) (e7.extBut _ _ (cG lz) (aA _ rfl))
 have sz8:h8.objs.size=h5.objs.size+1:=by rw [e8.1,e7.1,cx]
 rw [sz] at g8 gT sz8
 refine wpAny_pure ⟨_,rfl,?_⟩;show Q (.ref h5.objs.size) _;rw [sz]
 exact R h8 g8 (up _ _ D.TOz gO5) (f1.keep _ _ _ q15 (λo e=>up _ o D.i1z e) λo e=>up _ o D.l1z e) (f2.keep _ _ _ q25 (λo e=>up _ o D.i2z e) λo e=>up _ o D.l2z e) gT sz8 λc o n1 n2 n3 n4 e=>up c o n1 (k5 c o n1 n2 n3 n4 e)
theorem Vm {z TI TO i1 i2 l1 l2:Addr}{k1 k2:Nat}{xs ys:Array ah}{a b:ah}{S1 S2:Nat->Heap->Prop}{Q:Fin->Shared->Prop}(hh:A.handled=none) (D:mG z TI TO i1 i2 l1 l2) (f1:Feeds prog w i1 l1 xs S1) (f2:Feeds prog w i2 l2 ys S2)
  (g0:iO s.heap z TI TO .none) (gI:dN s.heap TI (.ref i1) (.ref i2)) (gO:dN s.heap TO a b) (q1:S1 k1 s.heap) (q2:S2 k2 s.heap) (ed:xs[k1]? = none\/ys[k2]? = none)
  (R:∀g e,(∀c o,c≠z->c≠TO->c≠i1->c≠i2->s.heap.get? c=some o->g.get? c=some o)->(∃o,g.get? e=some o/\o.cls = .type "StopIteration")->E (.ref e) { s with heap:=g }):ay (aD prog w) A (dS.«zip.__next__» ⟨[.ref z],[]⟩) Q E s:=by
 show ay _ _ (md (.ref z) 2 >>= _) _ _ _;refine aa (bw g0 rfl (x:=.bool false) rfl ?_)
 show ay _ _ (md (.ref z) 3 >>= _) _ _ _;refine aa (bw g0 rfl (x:=.ref TI) rfl ?_)
 refine aa (cM gI rfl ?_);show ay _ _ (cA (.ref z) >>= _) _ _ _
 refine aa ?_;unfold cA;refine aa (bw g0 rfl (x:=.none) rfl (wpAny_pure ?_));simp only [if_true]
 refine aa (fq ?_);refine aa (bw g0 rfl (x:=.ref TO) rfl ?_)
 refine aa (du g0 (by simp) λh1 g1 e1=>?_)
 replace g1:iO h1 z TI TO .ellipsis:=g1
 refine aa ?_;simp only [pf,pR,ij,rQ]
 refine aa (aa (lh ?_));show ay _ _ (bB (.ref i1) >>= _) _ _ _
 cases ex:xs[k1]? with
 | none =>
  refine aa (f1.done _ _ k1 _ _ hh (f1.but q1 e1 D.i1z D.l1z) ex λh2 e e2 he=>?_)
  obtain ⟨oe,ge,ce⟩:=he
  have g2:iO h2 z TI TO .ellipsis:=e2 _ _ D.i1z.symm g1
  have ne:e≠z:=λq=>by subst q;rw [g2] at ge;cases ge;simp at ce
  exact du g2 (by simp) λh3 _ e3=>R h3 e (λc o n1 _ n3 _ q=>e3.extBut _ _ n1 (e2 _ _ n3 (e1.extBut _ _ n1 q))) ⟨oe,e3.extBut _ _ ne ge,ce⟩
 | some x =>
  have ey:ys[k2]? = none:=by rcases ed with q | q;rw [ex] at q;cases q;exact q
  refine aa (f1.item _ _ k1 x _ _ (f1.but q1 e1 D.i1z D.l1z) ex λh2 q1' e2=>wpAny_pure ?_)
  have gO2:dN h2 TO a b:=e2.extBut _ _ D.TOi1 (e1.extBut _ _ D.TOz gO)
  refine aa (cM gO2 rfl ?_);refine aa (ic gO2 λh3 gO3 e3=>?_)
  refine aa (mD (wpAny_pure ?_));refine aa (aa (lh ?_));show ay _ _ (bB (.ref i2) >>= _) _ _ _
  refine aa (f2.done _ _ k2 _ _ hh (f2.but (f2.but (f2.but q2 e1 D.i2z D.l2z) e2 D.i12.symm D.l2i1) e3 D.TOi2.symm D.l2TO) ey λh4 e e4 he=>?_)
  obtain ⟨oe,ge,ce⟩:=he
  have g4:iO h4 z TI TO .ellipsis:=e4 _ _ D.i2z.symm (e3.extBut _ _ D.TOz.symm (e2.extBut _ _ D.i1z.symm g1))
  have ne:e≠z:=λq=>by subst q;rw [g4] at ge;cases ge;simp at ce
  exact du g4 (by simp) λh5 _ e5=>R h5 e (λc o n1 n2 n3 n4 q=>e5.extBut _ _ n1 (e4 _ _ n4 (e3.extBut _ _ n2 (e2.extBut _ _ n3 (e1.extBut _ _ n1 q))))) ⟨oe,e5.extBut _ _ ne ge,ce⟩
theorem WI {z TI TO i1 i2 l1 l2:Addr}{k1 k2:Nat}{xs ys:Array ah}{x y a b:ah}{S1 S2:Nat->Heap->Prop}{Q:Option ah->Shared->Prop}(D:mG z TI TO i1 i2 l1 l2) (f1:Feeds prog w i1 l1 xs S1) (f2:Feeds prog w i2 l2 ys S2)
  (g0:iO s.heap z TI TO .none) (gI:dN s.heap TI (.ref i1) (.ref i2)) (gO:dN s.heap TO a b) (q1:S1 k1 s.heap) (q2:S2 k2 s.heap) (ex:xs[k1]? = some x) (ey:ys[k2]? = some y)
  (R:∀g,iO g z TI TO (c6 s.heap.objs.size)->dN g TO x y->S1 (k1+1) g->S2 (k2+1) g->dN g s.heap.objs.size x y->g.objs.size=s.heap.objs.size+1 ->
   (∀c o,c≠z->c≠TO->c≠i1->c≠i2->s.heap.get? c=some o->g.get? c=some o)->Q (some (.ref s.heap.objs.size)) { s with heap:=g }):ay (aD prog w) A (eY (.ref z)) Q E s:=by
 have ty:s.TypeIs (.ref z) "zip":=⟨_,g0,rfl⟩
 unfold eY;exact aa (eC (bP (name:=aj "__next__") ty il (cf il ty ph
   (Vb D f1 f2 g0 gI gO q1 q2 ex ey λg a1 a2 a3 a4 a5 a6 a7=>wpAny_pure (R g a1 a2 a3 a4 a5 a6 a7)) (oN _))))
theorem WR {z TI TO i1 i2 l1 l2:Addr}{k1 k2:Nat}{xs ys:Array ah}{a b:ah}{S1 S2:Nat->Heap->Prop}{Q:Option ah->Shared->Prop}(hh:A.handled=none) (D:mG z TI TO i1 i2 l1 l2) (f1:Feeds prog w i1 l1 xs S1) (f2:Feeds prog w i2 l2 ys S2)
  (g0:iO s.heap z TI TO .none) (gI:dN s.heap TI (.ref i1) (.ref i2)) (gO:dN s.heap TO a b) (q1:S1 k1 s.heap) (q2:S2 k2 s.heap) (ed:xs[k1]? = none\/ys[k2]? = none)
  (R:∀g,(∀c o,c≠z->c≠TO->c≠i1->c≠i2->s.heap.get? c=some o->g.get? c=some o)->Q none { s with heap:=g }):ay (aD prog w) A (eY (.ref z)) Q E s:=by
 have ty:s.TypeIs (.ref z) "zip":=⟨_,g0,rfl⟩
 unfold eY;refine aa (eC (bP (name:=aj "__next__") ty il (cf il ty ph (Vm hh D f1 f2 g0 gI gO q1 q2 ed λg e hk he=>?_) (oN _))))
 obtain ⟨o,ho,hc⟩:=he
 exact aa (lF (T:="StopIteration") (b:=true) ⟨o,ho,hc⟩ mH (wpAny_pure (R _ hk)))
noncomputable def UI (t:Bool):String:=match t with | true=>"tuple_iterator" | false=>"list_iterator"
noncomputable def ItK (t:Bool) (h:Heap) (i l:Addr) (k:Nat):Prop:=match t with | true=>h.IsTupleIter i l k | false=>h.IsListIter i l k
noncomputable def IsK (t:Bool) (h:Heap) (l:Addr) (xs:Array ah):Prop:=match t with | true=>h.IsTuple l xs | false=>h.IsList l xs
noncomputable def SqK (t:Bool) (K:ai) (H:Hp) (a:Addr) (xs:List V):Prop:=match t with | true=>SqT K H a xs | false=>SqL K H a xs
theorem IsK.at {t:Bool}{h h':Heap}{l:Addr}{xs:Array ah}(q:IsK t h l xs) (k:∀o,h.get? l=some o->h'.get? l=some o):IsK t h' l xs:=by
 cases t with
 | true=>obtain ⟨o,e,r⟩:=q;exact ⟨o,k o e,r⟩
 | false=>exact Heap.IsList.at q λo e=>k o e
theorem IsK.lt {t:Bool}{h:Heap}{l:Addr}{xs:Array ah}(q:IsK t h l xs):l<h.objs.size:=by
 cases t with
 | true=>obtain ⟨o,e,r⟩:=q;exact aw e
 | false=>obtain ⟨o,e,r⟩:=q;exact aw e
theorem ItK.at {t:Bool}{h h':Heap}{i l:Addr}{k:Nat}(q:ItK t h i l k) (f:∀o,h.get? i=some o->h'.get? i=some o):ItK t h' i l k:=by
 cases t with
 | true=>obtain ⟨o,e,r⟩:=q;exact ⟨o,f o e,r⟩
 | false=>obtain ⟨o,e,r⟩:=q;exact ⟨o,f o e,r⟩
theorem ItK.obj {t:Bool}{h:Heap}{i l:Addr}{k:Nat}(q:ItK t h i l k):∃o,h.get? i=some o/\∀v,o.data≠.cell v:=by
 cases t with
 | true=>obtain ⟨o,e,_,d⟩:=q;exact ⟨o,e,λv z=>by rw [d] at z;cases z⟩
 | false=>obtain ⟨o,e,_,d⟩:=q;exact ⟨o,e,λv z=>by rw [d] at z;cases z⟩
theorem ItK.of {t:Bool}{h:Heap}{i l:Addr}(e:h.get? i=some { cls:=.type (UI t),data:=.fields #[.ref l,.int 0 0] }):ItK t h i l 0:=by
 cases t with
 | true=>exact ⟨_,e,rfl,rfl⟩
 | false=>exact ⟨_,e,rfl,rfl⟩
theorem JB {t:Bool}{i l:Addr}{xs:Array ah}(n:l≠i):Feeds prog w i l xs λk h=>ItK t h i l k/\IsK t h l xs:=by
 cases t with
 | true=>exact Yp n
 | false=>exact Xi n
theorem Zq {t:Bool}{l:Addr}{xs:Array ah}{Q:ah->Shared->Prop}(q:IsK t s.heap l xs) (z:Q (.ref s.heap.objs.size) { s with heap:=s.heap.push { cls:=.type (UI t),data:=.fields #[.ref l,.int 0 0] } }):ay (aD prog w) A (iZ (.ref l)) Q E s:=by
 cases t with
 | true=>exact nJ q z
 | false=>exact eK q z
noncomputable abbrev zp1 (t:Bool) (h:Heap) (l:Addr):Heap:=h.push { cls:=.type (UI t),data:=.fields #[.ref l,.int 0 0] }
noncomputable abbrev zp2 (t u:Bool) (h:Heap) (l m:Addr):Heap:=zp1 u (zp1 t h l) m
noncomputable abbrev zp3 (t u:Bool) (h:Heap) (l m:Addr):Heap:=(zp2 t u h l m).push { cls:=.type "tuple",data:=.seq #[.ref h.objs.size,.ref (zp1 t h l).objs.size] }
noncomputable abbrev zp4 (t u:Bool) (h:Heap) (l m:Addr):Heap:=(zp3 t u h l m).push { cls:=.type "tuple",data:=.seq #[.none,.none] }
noncomputable abbrev zp5 (t u:Bool) (h:Heap) (l m:Addr):Heap:=(zp4 t u h l m).push { cls:=.type "zip",data:=.fields #[.none,.bool false,.bool false,.ref (zp2 t u h l m).objs.size,.ref (zp3 t u h l m).objs.size] }
theorem Yg (t u:Bool) (l m:Addr) (xs ys:Array ah) :
  Meets (dS.«zip.__new__» ⟨[.type "zip",.ref l,.ref m],[]⟩) (λ_ R s=>IsK t s.heap l xs/\IsK u s.heap m ys/\R (.ok (.ret (.ref (zp4 t u s.heap l m).objs.size))) { s with heap:=zp5 t u s.heap l m }) :=
 .of_wp λprog w A R s0 h=>by
  obtain ⟨hp,g,d,tk,os⟩:=s0;obtain ⟨q1,q2,h⟩:=h;have hsub:=sub_zip
  have p1:IsK t (Shared.heap ⟨hp,g,d,tk,os⟩) l xs:=q1
  have p2:IsK u (Shared.heap ⟨zp1 t hp l,g,d,tk,os⟩) m ys:=q2.at λo e=>ak _ e
  wp_walk using Zq p1,Zq p2
  exact ⟨_,rfl,h⟩
theorem UQ {t u:Bool}{l m:Addr}{xs ys:Array ah}{Q:ah->Shared->Prop}(q1:IsK t s.heap l xs) (q2:IsK u s.heap m ys)
  (R:∀g,iO g (s.heap.objs.size+4) (s.heap.objs.size+2) (s.heap.objs.size+3) .none->dN g (s.heap.objs.size+2) (.ref s.heap.objs.size) (.ref (s.heap.objs.size+1)) ->
   dN g (s.heap.objs.size+3) .none .none->ItK t g s.heap.objs.size l 0->ItK u g (s.heap.objs.size+1) m 0->(∀c o,s.heap.get? c=some o->g.get? c=some o)->Q (.ref (s.heap.objs.size+4)) { s with heap:=g }) :
  ay (aD prog w) A (call (.type "zip") [.ref l,.ref m]) Q E s:=by
 refine callType_new F.called_zip ⋯ (F.typeCall_zip_2 _ _) (F.newCall_zip_2 _ _) (λobj=>F.args_object_init_3 obj _ _) F.entry_zip_new (Yg t u l m xs ys) ⟨q1,q2,?_⟩
 have z1:(zp1 t s.heap l).objs.size=s.heap.objs.size+1:=cx ..
 have z2:(zp2 t u s.heap l m).objs.size=s.heap.objs.size+2:=by rw [cx,z1]
 have z3:(zp3 t u s.heap l m).objs.size=s.heap.objs.size+3:=by rw [cx,z2]
 have z4:(zp4 t u s.heap l m).objs.size=s.heap.objs.size+4:=by rw [cx,z3]
 have g5:(zp5 t u s.heap l m).get? (zp4 t u s.heap l m).objs.size=some _:=aA _ rfl
 have g4:(zp5 t u s.heap l m).get? (zp3 t u s.heap l m).objs.size=some _:=ak _ (aA _ rfl)
 have g3:(zp5 t u s.heap l m).get? (zp2 t u s.heap l m).objs.size=some _:=ak _ (ak _ (aA _ rfl))
 have g2:(zp5 t u s.heap l m).get? (zp1 t s.heap l).objs.size=some _:=ak _ (ak _ (ak _ (aA _ rfl)))
 have g1:(zp5 t u s.heap l m).get? s.heap.objs.size=some _:=ak _ (ak _ (ak _ (ak _ (aA _ rfl))))
 show _/\_
 rw [z2,z3,z4] at g5;rw [z1,z2] at g3;rw [z3] at g4;rw [z1] at g2;rw [z4]
 exact ⟨⟨_,g5,rfl⟩,R _ g5 g3 g4 (.of g1) (.of g2) λc o x=>ak _ (ak _ (ak _ (ak _ (ak _ x))))⟩
end
section
variable {X:Cx}{s:Shared}{σ:St}{H:Hp}{pins:List (Addr×Obj)}
theorem Yn {t:Bool}{a:Addr}{xs:List V}(I:Inv X pins σ H s) (h:SqK t X.K H a xs):∃its:List ah,jI xs its/\IsK t s.heap a its.toArray/\xs.length<=sizeLine:=by
 cases t with
 | true=>exact I.tuple h
 | false=>obtain ⟨its,r,p,z⟩:=I.list h;exact ⟨its,r,p.isList,z⟩
theorem JV {t:Bool}{a:Addr}{xs ys:List V}(I:Inv X pins σ H s) (h:SqK t X.K H a xs) (h':SqK t X.K H a ys):xs=ys:=by
 cases t with
 | true=>exact I.tuple_inj h h'
 | false=>exact I.list_inj h h'
end
noncomputable def YQ (K:ai) (t u:Bool) (l1 l2:Addr):It :=
 ⟨λi H=>∃xs ys x y,SqK t K H l1 xs/\SqK u K H l2 ys/\xs[i]? = some x/\ys[i]? = some y,λi H v H'=>∃p x y,v = .ref p/\H p=none/\H'=upd H p (.tup [x,y])/\(∀xs,SqK t K H l1 xs->xs[i]? = some x)/\∀ys,SqK u K H l2 ys->ys[i]? = some y,
  λi H=>∃xs ys,SqK t K H l1 xs/\SqK u K H l2 ys/\(xs.length<=i\/ys.length<=i)⟩
theorem Yi {t u:Bool}{P:Program}{w:aU}{K:ai}{es:List Expr}{x1:Nat}{pos:Pos}{z TI TO i1 i2 l1 l2:Addr}(D:mG z TI TO i1 i2 l1 l2) :
  Turn P w K (.Tuple es x1 pos) (YQ K t u l1 l2) [z,TI,TO,i1,i2] z (λi h=>∃a b,iO h z TI TO .none/\dN h TI (.ref i1) (.ref i2)/\dN h TO a b/\ItK t h i1 l1 i/\ItK u h i2 l2 i) where
 mem:=by simp
 obj:=λi h ⟨a,b,t1,t2,t3,t4,t5⟩ c hc=>by
  simp only [fi,eW,or_false] at hc
  rcases hc with rfl | rfl | rfl | rfl | rfl
  ·exact ⟨_,t1,λv e=>by have e':pC _=mM v:=e;cases e'⟩
  ·exact ⟨_,t2,λv e=>by have e':Data.seq _ _=mM v:=e;cases e'⟩
  ·exact ⟨_,t3,λv e=>by have e':Data.seq _ _=mM v:=e;cases e'⟩
  ·exact t4.obj
  ·exact t5.obj
 keep:=λi h h' ⟨a,b,t1,t2,t3,t4,t5⟩ k=>⟨a,b,k z (by simp) _ t1,k TI (by simp) _ t2,k TO (by simp) _ t3,t4.at λo e=>k i1 (by simp) o e,t5.at λo e=>k i2 (by simp) o e⟩
 item:=by
  intro X hP hw hK hc i pins s σ H E I hf st hg
  subst hP hw hK
  obtain ⟨a,b,t1,t2,t3,t4,t5⟩:=st
  obtain ⟨xs,ys,x,y,hq1,hq2,hx,hy⟩:=hg
  obtain ⟨its1,rv1,p1,_⟩:=Yn I hq1
  obtain ⟨its2,rv2,p2,_⟩:=Yn I hq2
  obtain ⟨u1,hu1,ru1⟩:=rv1.get hx
  obtain ⟨u2,hu2,ru2⟩:=rv2.get hy
  have hn:H s.heap.objs.size=none:=I.hok.fresh (av _)
  have fz:=hf z (by simp)
  have fTO:=hf TO (by simp)
  have f1:=hf i1 (by simp)
  have f2:=hf i2 (by simp)
  refine WI D (JB D.l1i1) (JB D.l2i2) t1 t2 t3 ⟨t4,p1⟩ ⟨t5,p2⟩ (x:=u1) (y:=u2) (by simpa using hu1) (by simpa using hu2) λh' o1 o2 o3 o4 o5 o6 o7=>⟨_,rfl,?_⟩
  obtain ⟨o3,_⟩:=o3;obtain ⟨o4,_⟩:=o4
  refine wpAny_letOwnedTupleGo_zip o1 λh2 q1 sb=>?_
  have hzl:z<s.heap.objs.size:=aw t1
  have kk:∀c o,c≠z->c≠TO->c≠i1->c≠i2->s.heap.get? c=some o->h2.get? c=some o:=λc o n1 n2 n3 n4 e=>(sb.2 c n1).trans (o7 c o n1 n2 n3 n4 e)
  have et:h2.get? s.heap.objs.size=some { cls:=.type "tuple",data:=.seq #[u1,u2] }:=(sb.2 _ (cG hzl)).trans o5
  have tne:∀c o,H c=some o->c≠z/\c≠TO/\c≠i1/\c≠i2/\c≠s.heap.objs.size:=λc o q=>⟨λe=>(by rw [e,fz.1] at q;cases q),λe=>(by rw [e,fTO.1] at q;cases q),λe=>(by rw [e,f1.1] at q;cases q),λe=>(by rw [e,f2.1] at q;cases q),λe=>(by rw [e,hn] at q;cases q)⟩
  have getF:∀{c:Addr} {o:HO},H c=some o->upd H s.heap.objs.size (.tup [x,y]) c=some o:=λ{c o} q=>by rw [ja (tne c o q).2.2.2.2];exact q
  have nin:∀{c:Addr},c∉[z,TO,i1,i2]->c≠z/\c≠TO/\c≠i1/\c≠i2:=λ{c} h=>by simpa using h
  have I1:Inv X pins σ (upd H s.heap.objs.size (.tup [x,y])) { s with heap:=h2,toks:=s.toks }:=by
   refine I.step (g':=s.gens) (d':=s.drawn) (ch:=[z,TO,i1,i2]) (λc hc'=>?_) (λc o _ _ hc' e _=>kk c o (nin hc').1 (nin hc').2.1 (nin hc').2.2.1 (nin hc').2.2.2 e) (λc o _ _ hc' e _=>⟨o.slots,kk c o (nin hc').1 (nin hc').2.1 (nin hc').2.2.1 (nin hc').2.2.2 e⟩)
    (λc o _ e n=>by rw [ja (aB (aw e))];exact n) (λc o hc' e=>⟨o,kk c o (nin hc').1 (nin hc').2.1 (nin hc').2.2.1 (nin hc').2.2.2 e⟩) (λ_ _ q=>getF q) (λ_ _ _ q=>getF q) (λc ps q=>⟨#[],by rw [getF q];simp⟩) (λm hm=>?_) (λc v q=>?_) I.bare
   ·simp only [fi,eW,or_false] at hc'
    rcases hc' with rfl | rfl | rfl | rfl
    ·exact ⟨fz.2.2.2.1,fz.2.1,fz.2.2.2.2.1,fz.2.2.2.2.2⟩
    ·exact ⟨fTO.2.2.2.1,fTO.2.1,fTO.2.2.2.2.1,fTO.2.2.2.2.2⟩
    ·exact ⟨f1.2.2.2.1,f1.2.1,f1.2.2.2.2.1,f1.2.2.2.2.2⟩
    ·exact ⟨f2.2.2.2.1,f2.2.1,f2.2.2.2.2.1,f2.2.2.2.2.2⟩
   ·obtain ⟨o,es,ep,ho,r⟩:=hm
    exact ⟨o,es,ep,kk _ o (cE fz.2.1) (cE fTO.2.1) (cE f1.2.1) (cE f2.2.1) ho,r⟩
   ·by_cases hb:c=s.heap.objs.size
    ·subst hb
     rw [j8] at q;cases q
     exact ⟨by show 2<=sizeLine;decide,[u1,u2],.cons ru1 (.cons ru2 .nil),⟨_,et,rfl,0,rfl⟩⟩
    ·rw [ja hb] at q
     have hh:=tne c v q
     refine (I.hok c v q).stay (λc' o hc' e=>?_) (λ_ e=>getF e) λ_ _ e=>getF e
     have hh':c'≠z/\c'≠TO/\c'≠i1/\c'≠i2:=by
      rcases hc' with e | e
      ·rw [e];exact ⟨hh.1,hh.2.1,hh.2.2.1,hh.2.2.2.1⟩
      ·have:=tne c' _ e;exact ⟨this.1,this.2.1,this.2.2.1,this.2.2.2.1⟩
     exact kk c' o hh'.1 hh'.2.1 hh'.2.2.1 hh'.2.2.2 e
  have s2:∀{c:Addr} {o:Obj},c≠z->h'.get? c=some o->h2.get? c=some o:=λn e=>(sb.2 _ n).trans e
  refine ⟨.ref s.heap.objs.size,_,I1,rfl,⟨_,x,y,rfl,hn,rfl,λys' hy'=>by rw [JV I hy' hq1];exact hx,λys' hy'=>by rw [JV I hy' hq2];exact hy⟩,⟨u1,u2,q1,kk _ _ D.TIz D.TITO D.TIi1 D.TIi2 t2,s2 D.TOz o2,o3.at λo e=>s2 D.i1z e,o4.at λo e=>s2 D.i2z e⟩,λc hc'=>?_⟩
  have hl:c<s.heap.objs.size:=by
   simp only [fi,eW,or_false] at hc'
   rcases hc' with rfl | rfl | rfl | rfl | rfl
   ·exact hzl
   ·exact aw t2
   ·exact aw t3
   ·obtain ⟨o,e,_⟩:=t4.obj;exact aw e
   ·obtain ⟨o,e,_⟩:=t5.obj;exact aw e
  rw [ja (aB hl)]
  exact (hf c hc').1
 done:=by
  intro X hP hw hK hc i pins s σ H E I hf st hg
  subst hP hw hK
  obtain ⟨a,b,t1,t2,t3,t4,t5⟩:=st
  obtain ⟨xs,ys,hq1,hq2,hend⟩:=hg
  obtain ⟨its1,rv1,p1,_⟩:=Yn I hq1
  obtain ⟨its2,rv2,p2,_⟩:=Yn I hq2
  have e1:=rv1.length
  have e2:=rv2.length
  have fz:=hf z (by simp)
  have fTO:=hf TO (by simp)
  have f1:=hf i1 (by simp)
  have f2:=hf i2 (by simp)
  have tne:∀c o,H c=some o->c≠z/\c≠TO/\c≠i1/\c≠i2:=λc o q=>⟨λe=>(by rw [e,fz.1] at q;cases q),λe=>(by rw [e,fTO.1] at q;cases q),λe=>(by rw [e,f1.1] at q;cases q),λe=>(by rw [e,f2.1] at q;cases q)⟩
  have nin:∀{c:Addr},c∉[z,TO,i1,i2]->c≠z/\c≠TO/\c≠i1/\c≠i2:=λ{c} h=>by simpa using h
  refine WR (I.ok.hd hc) D (JB D.l1i1) (JB D.l2i2) t1 t2 t3 ⟨t4,p1⟩ ⟨t5,p2⟩ ?_ λh' kk=>⟨rfl,?_⟩
  ·rcases hend with h | h
   ·exact .inl (by simp;omega)
   ·exact .inr (by simp;omega)
  ·refine I.step (g':=s.gens) (d':=s.drawn) (t':=s.toks) (ch:=[z,TO,i1,i2]) (λc hc'=>?_) (λc o _ _ hc' e _=>kk c o (nin hc').1 (nin hc').2.1 (nin hc').2.2.1 (nin hc').2.2.2 e) (λc o _ _ hc' e _=>⟨o.slots,kk c o (nin hc').1 (nin hc').2.1 (nin hc').2.2.1 (nin hc').2.2.2 e⟩)
    (λ_ _ _ _ n=>n) (λc o hc' e=>⟨o,kk c o (nin hc').1 (nin hc').2.1 (nin hc').2.2.1 (nin hc').2.2.2 e⟩) (λ_ _ q=>q) (λ_ _ _ q=>q) (λc ps q=>⟨#[],by rw [q];simp⟩) (λm hm=>?_) (λc v q=>?_) I.bare
   ·simp only [fi,eW,or_false] at hc'
    rcases hc' with rfl | rfl | rfl | rfl
    ·exact ⟨fz.2.2.2.1,fz.2.1,fz.2.2.2.2.1,fz.2.2.2.2.2⟩
    ·exact ⟨fTO.2.2.2.1,fTO.2.1,fTO.2.2.2.2.1,fTO.2.2.2.2.2⟩
    ·exact ⟨f1.2.2.2.1,f1.2.1,f1.2.2.2.2.1,f1.2.2.2.2.2⟩
    ·exact ⟨f2.2.2.2.1,f2.2.1,f2.2.2.2.2.1,f2.2.2.2.2.2⟩
   ·obtain ⟨o,es,ep,ho,r⟩:=hm
    exact ⟨o,es,ep,kk _ o (cE fz.2.1) (cE fTO.2.1) (cE f1.2.1) (cE f2.2.1) ho,r⟩
   ·have hh:=tne c v q
    refine (I.hok c v q).stay (λc' o hc' e=>?_) (λ_ e=>e) λ_ _ e=>e
    have hh':c'≠z/\c'≠TO/\c'≠i1/\c'≠i2:=by
     rcases hc' with e | e
     ·rw [e];exact hh
     ·exact tne c' _ e
    exact kk c' o hh'.1 hh'.2.1 hh'.2.2.1 hh'.2.2.2 e
 self:=λ_ _ _ _ _ ⟨_,_,t1,_⟩ h=>pj t1 h
section
variable {X:Cx}
noncomputable def Gx (K:ai) (ta:TA):TI:=λσ H R=>ta σ H λvs H1=>∃t u a b,vs=[.ref a,.ref b]/\(∃xs,SqK t K H1 a xs)/\(∃ys,SqK u K H1 b ys)/\R (YQ K t u a b) H1
theorem Uj {es:List Expr}{x1:Nat}{tpos:Pos}{l r:Expr}{ta:TA}{p pos:Pos}(K:ai) (hg:Gl X "zip") (hm:X.mg "zip" = none) (ha:PA X [l,r] ta) (hs:aN [l,r] X.env=(false,eval l X.env)::aN [r] X.env:=by rfl) (hs2:(cT pos (aN [r] X.env)).any (·.1)=false:=by rfl) (hK:X.K=K:=by rfl) :
  PI X (.Tuple es x1 tpos) (.Call (.Name "zip" p) [l,r] [] pos) (Gx K ta):=by
 subst hK
 intro pins s σ H R I h
 refine Call_ (yS I hg hm boot_zip (cF (thn (ha pos pins s σ H _ I h) λus s1 ⟨vs,H1,I1,r1,q1⟩=>?_) hs hs2))
 obtain ⟨t,t2,a,b,e,⟨xs,hq⟩,⟨ys,hq2⟩,q⟩:=q1
 subst e
 obtain ⟨u,u2,rfl,ru,ru2⟩:=Zb r1
 cases ru
 cases ru2
 obtain ⟨its,rv,pl,_⟩:=Yn I1 hq
 obtain ⟨its2,rv2,pl2,_⟩:=Yn I1 hq2
 refine UQ pl pl2 λh' z1 z2 z3 z4 z5 kk=>?_
 refine pj z1 ?_
 have I2:Inv X pins σ H1 { s1 with heap:=h',toks:=s1.toks }:=I1.kept kk
 have la:a<s1.heap.objs.size:=pl.lt
 have lb:b<s1.heap.objs.size:=pl2.lt
 have D:mG (s1.heap.objs.size+4) (s1.heap.objs.size+2) (s1.heap.objs.size+3) s1.heap.objs.size (s1.heap.objs.size+1) a b:=by
  constructor <;> first | exact aB la | exact aB lb | exact aB (aI la (dQ _ _)) | exact aB (aI lb (dQ _ _)) | (apply aB;omega) | (apply cG;omega)
 refine ⟨_,[s1.heap.objs.size+4,s1.heap.objs.size+2,s1.heap.objs.size+3,s1.heap.objs.size,s1.heap.objs.size+1],_,_,H1,rfl,I2,Yi D,⟨.none,.none,z1,z2,z3,z4,z5⟩,λc hc=>?_,q⟩
 have hle:s1.heap.objs.size<=c:=by
  simp only [fi,eW,or_false] at hc
  rcases hc with rfl | rfl | rfl | rfl | rfl
  ·exact dQ _ _
  ·exact dQ _ _
  ·exact dQ _ _
  ·exact av _
  ·exact dQ _ _
 exact I1.fpOk hle (I1.hok.fresh hle)
end
theorem gZ {K:ai}{t0 u0:Bool}{a b acc:Addr}{xs ys:List V}{g:TG}{ti:TT}{te:TE}{R:Hp->Prop}{σ:St}{H:Hp}(hl2:xs.length=ys.length) (Pv:Nat->St->Hp->Prop) (h0:Pv 0 σ H) (hl:∀i σ H,i<=xs.length->Pv i σ H->SqK t0 K H a xs/\SqK u0 K H b ys)
  (hs:∀i x y σ H t,xs[i]? = some x->ys[i]? = some y->Pv i σ H->H t=none->g (.ref t) σ (upd H t (.tup [x,y])) λσ3 H3=>ti σ3 H3 λok H4=>if ok=true then te σ3 H4 λv H5=>∃zs,H5 acc=some (.lst zs)/\zs.length<sizeLine/\Pv (i+1) σ3 (upd H5 acc (.lst (zs++[v]))) else Pv (i+1) σ3 H4)
  (hd:∀σ H,Pv xs.length σ H->R H) :
  ∃W:Nat->Nat->St->Hp->Prop,(∃m,W 0 m σ H)/\∀i m σ' H',W i m σ' H' ->
   ((YQ K t0 u0 a b).stop i H'/\R H')\/((YQ K t0 u0 a b).go i H'/\∃NX:St->Hp->Prop,(∀σ2 H2,NX σ2 H2->∃m',m'<m/\W (i+1) m' σ2 H2) /\
    ∀x H2,(YQ K t0 u0 a b).yld i H' x H2->g x σ' H2 λσ3 H3=>ti σ3 H3 λok H4=>if ok=true then te σ3 H4 λv H5=>∃zs,H5 acc=some (.lst zs)/\zs.length<sizeLine/\NX σ3 (upd H5 acc (.lst (zs++[v]))) else NX σ3 H4):=by
 refine ⟨λi m σ H=>m=xs.length-i/\i<=xs.length/\Pv i σ H,⟨xs.length,by simp,aO _,h0⟩,?_⟩
 rintro i m σ H ⟨rfl,hi,p⟩
 obtain ⟨q,q2⟩:=hl i σ H hi p
 by_cases hlt:i<xs.length
 ·refine .inr ⟨⟨xs,ys,xs[i],ys[i]'∅,q,q2,by simp [hlt],ag ∅⟩,Pv (i+1),λσ' H' p'=>⟨xs.length-(i+1),∅,rfl,hlt,p'⟩,λv H' y=>?_⟩
  obtain ⟨t,x,y',rfl,hn,rfl,y1,y2⟩:=y
  exact hs i x y' σ H t (y1 xs q) (y2 ys q2) p hn
 ·have e:i=xs.length:=∅
  subst e
  exact .inl ⟨⟨xs,ys,q,q2,.inl (av _)⟩,hd σ H p⟩
end L2
end
section
namespace L2
open PySem.W
mutual
inductive Dat (H:Hp):V->ip->Prop
 | non:Dat H .non .none
 | bl (b:Bool):Dat H (.bl b) (.bool b)
 | int (i:Int):Dat H (.int i) (.int i)
 | str (x:Str):Dat H (.str x) (.str x)
 | tup {p:Addr} {vs:List V} {ds:List ip}:H p=some (.tup vs)->DatL H vs ds->Dat H (.ref p) (.tuple ds)
 | lst {p:Addr} {vs:List V} {ds:List ip}:H p=some (.lst vs)->DatL H vs ds->Dat H (.ref p) (.list ds)
inductive DatL (H:Hp):List V->List ip->Prop
 | nil:DatL H [] []
 | cons {v:V} {vs:List V} {d:ip} {ds:List ip}:Dat H v d->DatL H vs ds->DatL H (v::vs) (d::ds)
end
mutual
theorem Dat.ext {M:Addr->Prop}{H H':Hp}(x:Vq M H H') (hM:∀c,M c->∀vs,H c≠some (.lst vs)/\H c≠some (.tup vs)):∀{v:V}{d:ip},Dat H v d->Dat H' v d
 | _,_,.non=>.non
 | _,_,.bl b=>.bl b
 | _,_,.int i=>.int i
 | _,_,.str y=>.str y
 | _,_,.tup h r=>.tup (x _ _ h λz=>(hM _ z _).2 h) (DatL.ext x hM r)
 | _,_,.lst h r=>.lst (x _ _ h λz=>(hM _ z _).1 h) (DatL.ext x hM r)
theorem DatL.ext {M:Addr->Prop}{H H':Hp}(x:Vq M H H') (hM:∀c,M c->∀vs,H c≠some (.lst vs)/\H c≠some (.tup vs)):∀{vs:List V}{ds:List ip},DatL H vs ds->DatL H' vs ds
 | _,_,.nil=>.nil
 | _,_,.cons h r=>.cons (Dat.ext x hM h) (DatL.ext x hM r)
end
theorem Dat.same {H H':Hp}{v:V}{d:ip}(s:jq H H') (h:Dat H v d):Dat H' v d:=h.ext (M:=λ_=>False) (Vq.of_same s) (λ_ z=>z.elim)
theorem DatL.length {H:Hp}:∀{vs:List V}{ds:List ip},DatL H vs ds->vs.length=ds.length
 | _,_,.nil=>rfl
 | _,_,.cons _ r=>congrArg Nat.succ r.length
theorem DatL.get {H:Hp}:∀{vs:List V}{ds:List ip}{i:Nat}{v:V},DatL H vs ds->vs[i]? = some v->∃d,ds[i]? = some d/\Dat H v d
 | _,_,_,_,.nil,e=>by simp at e
 | _,_,0,_,.cons r _,e=>by simp at e;subst e;exact ⟨_,rfl,r⟩
 | _,_,i+1,v,.cons _ t,e=>by
  obtain ⟨d,h1,h2⟩:=DatL.get (i:=i) (v:=v) t (by simpa using e)
  exact ⟨d,by simpa using h1,h2⟩
noncomputable def vL:Nat->ip->Bool
 | 0,_=>false
 | _+1,.none=>true
 | _+1,.bool _=>true
 | _+1,.int _=>true
 | _+1,.str _=>true
 | n+1,.list ds=>decide (ds.length<=1000) && ds.all (vL n)
 | n+1,.tuple ds=>decide (ds.length<=1000) && ds.all (vL n)
 | _+1,_=>false
noncomputable def YU (n:Nat):Sp:=λvs H Q _=>∃(x y:V) (d:ip),vs=[x,y]/\Dat H x d/\Dat H y d/\vL n d=true/\∀H',jq H H'->Q (.bl true) H'
theorem QH (K:ai):aG K (.type "str") (.type "bool")=some false:=(qq K _ _).trans (by decide +kernel)
theorem XR (K:ai):aG K (.type "str") (.type "int")=some false:=(qq K _ _).trans (by decide +kernel)
theorem wQ (K:ai):aG K (.type "str") (.type "str")=some true:=(qq K _ _).trans (by decide +kernel)
end L2
end
section
namespace L2
open PySem.W
noncomputable def Two (vs:Array ah) (a0:ah):Prop:=vs[0]? = some a0/\vs[2]? = some .none
theorem Two.put {vs:Array ah}{a0:ah}(t:Two vs a0) (x:ah):Two (vs.setIfInBounds 1 x) a0 :=
 ⟨by rw [fS ⋯];exact t.1,by rw [fS ⋯];exact t.2⟩
theorem V7 (o:Obj) (f:Array ah->Array ah):(o.mapFields f).dict=o.dict:=by
 obtain ⟨c,d,dt,sl⟩:=o
 cases dt <;> rfl
noncomputable def OnT (h B:Heap) (e:Addr) (cls a0 fl:ah):Prop :=
 ∃oe vs T oT ts,h.get? e=some oe/\(oe.cls=cls/\Two vs a0/\oe.dict=none)/\oe.data = .fields vs/\vs[1]? = some (.ref T)/\B.get? T=none/\T≠e/\h.get? T=some oT/\oT.data = .fields ts/\ts[3]? = some fl
section
variable {M:sI}{A:b9}{E:ah->Shared->Prop}{s:Shared}{B:Heap}{env:Env}{outer l:List Env}{L e:Addr}{cls a0 fl:ah}{Q:Unit->Shared->Prop}
theorem yo (st:B.StaysIn s.heap) (fu:s.heap.FunFrames B l) (on:OnT s.heap B e cls a0 fl)
  (k:∀g,B.StaysIn g->g.FunFrames B l->OnT g B e cls a0 .none->(∀b o,s.heap.get? b=some o->(∀vs,o.data≠.fields vs)->g.get? b=some o)->Q () { s with heap:=g }):ay M A (setFlight (.ref e) none) Q E s:=by
 obtain ⟨oe,vs,T,oT,ts,ge,gc,gd,g1,gB,gn,gT,gD,g3⟩:=on
 have z3:3<ts.size:=(Array.getElem?_eq_some_iff.mp g3).1
 have ot:∀b,b≠T->(s.heap.update T (eF (·.setIfInBounds 3 ((none:Option Addr).elim aS λf=>c6 f)))).get? b=s.heap.get? b:=λb hb =>
  bS _ _ hb.symm
 have nr:∀{b o},s.heap.get? b=some o->(∀vs,o.data≠.fields vs)->b≠T:=λhb hn q=>by
  rw [q,gT] at hb
  cases hb
  exact hn ts gD
 unfold setFlight
 refine aa (bw ge gd g1 ?_)
 rw [if_pos (by simp)]
 refine eQ gT gD z3 (k _ (λb o hb=>?_) (fu.of_keeps λb o hb hn=>⟨o,?_,rfl⟩) ?_ λb o hb hn=>?_)
 ·rw [ot b λq=>by rw [q,gB] at hb;cases hb]
  exact st b o hb
 ·rw [ot b (nr hb hn)]
  exact hb
 ·refine ⟨oe,vs,T,_,_,?_,gc,gd,g1,gB,gn,dz _ gT (eI (dZ gD _)),dZ gD _,by simp [z3]⟩
  rw [ot e gn.symm]
  exact ge
 ·rw [ot b (nr hb hn)]
  exact hb
theorem Qk {oe:Obj}{vs:Array ah}{head:ah}{nx:Bool}(fr:A.frames=some (env::outer)) (fu:s.heap.FunFrames B (env::outer)) (hL:env.frame=some L) (ge:s.heap.get? e=some oe) (st:B.StaysIn s.heap) (ne:B.get? e=none) (gd:oe.data = .fields vs)
  (z1:1<vs.size) (tw:Two vs a0) (dn:oe.dict=none) (k:∀g,B.StaysIn g->g.FunFrames B (env::outer)->OnT g B e oe.cls a0 (c6 L)->s.heap.UpToSlots g->Q () { s with heap:=g }) :
  ay M A (do let a <- frameOf env;let pl <- entryPlaceOf L nx;let b <- mZ head a .none (c6 L) .none pl;setField (.ref e) 1 b) Q E s:=by
 have out:e∉(env::outer).filterMap (·.frame):=λq=>by
  obtain ⟨_,o,ho,hn⟩:=fu.mem q
  rw [ge] at ho
  cases ho
  exact hn vs gd
 refine aa (wpAny_frameOf_fun fr fu hL λg1 so=>?_)
 refine aa (wpAny_entryPlaceOf λpl sh=>?_)
 unfold mZ newFields
 refine aa (bx ?_ (sh.sizeOk5 _ _ _ _ _))
 have e1:g1.get? e=some oe:=(so.2.1 e out).trans ge
 have s1:B.StaysIn g1:=λb o hb=>(so.2.1 b λq=>by rw [(fu.mem q).1] at hb;cases hb).trans (st b o hb)
 generalize hnew:({ cls:=.type "traceback",dict:=none,data:=.fields ([head,.ref L,.none,c6 L,.none]++(if pl.isEmpty then dm 6 aS else pl)).toArray }:Obj)=new
 have nd:new.data = .fields ([head,.ref L,.none,c6 L,.none]++(if pl.isEmpty then dm 6 aS else pl)).toArray:=by rw [<- hnew]
 have e2:=ak (h:=g1) new e1
 refine eQ e2 gd z1 ?_
 have Te:g1.objs.size≠e:=cG (aw e1)
 have d3:=dZ gd (·.setIfInBounds 1 (b7 g1.objs.size))
 have e3:=dz (eF (·.setIfInBounds 1 (b7 g1.objs.size))) e2 (eI d3)
 have T3:((g1.push new).update e (eF (·.setIfInBounds 1 (b7 g1.objs.size)))).get? g1.objs.size=some new:=by
  rw [bS _ _ Te.symm]
  exact aA g1 (eI nd)
 have kp:∀{b o},b≠e->g1.get? b=some o->((g1.push new).update e (eF (·.setIfInBounds 1 (b7 g1.objs.size)))).get? b=some o:=λhb q=>by
  rw [bS _ _ hb.symm]
  exact ak _ q
 have nr:∀{b o},s.heap.get? b=some o->(∀vs,o.data≠.fields vs)->b≠e:=λhb hn q=>by
  rw [q,ge] at hb
  cases hb
  exact hn vs gd
 refine k _ (λb o hb=>kp (λq=>by rw [q,ne] at hb;cases hb) (s1 b o hb)) (fu.of_keeps λb o hb hn=>?_) ?_ λb o hb hn=>?_
 ·obtain ⟨sl,hs⟩:=so.2.2 b o hb
  exact ⟨_,kp (nr hb hn) hs,rfl⟩
 ·exact ⟨_,_,g1.objs.size,_,_,e3,⟨oM _ _,tw.put _,(V7 _ _).trans dn⟩,d3,by simp [z1],s1.fresh,Te,T3,nd,by first | (simp;done) | (rcases sh with rfl | ⟨_,_,_,_,_,_,_,rfl⟩ <;> simp)⟩
 ·obtain ⟨sl,hs⟩:=so.2.2 b o hb
  exact ⟨sl,kp (nr hb hn) hs⟩
theorem Zw (fr:A.frames=some (env::outer)) (fu:s.heap.FunFrames B (env::outer)) (hL:env.frame=some L) (on:OnT s.heap B e cls a0 .none) (st:B.StaysIn s.heap) (ne:B.get? e=none)
  (k:∀g,B.StaysIn g->g.FunFrames B (env::outer)->OnT g B e cls a0 (c6 L)->s.heap.UpToSlots g->Q () { s with heap:=g }):ay M A (iF (.ref e) env) Q E s:=by
 obtain ⟨oe,vs,T,oT,ts,ge,⟨rfl,tw,dn⟩,gd,g1,gB,gn,gT,gD,g3⟩:=on
 unfold iF
 simp only [hL]
 refine aa (bw ge gd g1 ?_)
 rw [if_pos (by simp)]
 refine aa (bw gT gD g3 ?_)
 rw [if_neg (by simp [c6])]
 refine aa (eQ gT gD (Array.getElem?_eq_some_iff.mp g3).1 ?_)
 have ot:∀b,b≠T->(s.heap.update T (eF (·.setIfInBounds 3 aS))).get? b=s.heap.get? b:=λb hb =>
  bS _ _ hb.symm
 have nr:∀{b o},s.heap.get? b=some o->(∀vs,o.data≠.fields vs)->b≠T:=λhb hn q=>by
  rw [q,gT] at hb
  cases hb
  exact hn ts gD
 refine Qk (oe:=oe) (vs:=vs) (a0:=a0) fr (fu.of_keeps λb o hb hn=>⟨o,?_,rfl⟩) hL ?_ (λb o hb=>?_) ne gd (Array.getElem?_eq_some_iff.mp g1).1 tw dn λg k1 k2 k3 k4=>k g k1 k2 k3 λb o hb hn=>?_
 ·exact (ot b (nr hb hn)).trans hb
 ·exact (ot e gn.symm).trans ge
 ·exact (ot b λq=>by rw [q,gB] at hb;cases hb).trans (st b o hb)
 ·exact k4 b o ((ot b (nr hb hn)).trans hb) hn
theorem YL (fr:A.frames=some (env::outer)) (fu:s.heap.FunFrames B (env::outer)) (hL:env.frame=some L) (on:OnT s.heap B e cls a0 .none) (st:B.StaysIn s.heap) (ne:B.get? e=none)
  (k:∀g,B.StaysIn g->g.FunFrames B (env::outer)->OnT g B e cls a0 .none->s.heap.UpToSlots g->Q () { s with heap:=g }):ay M A (mQ env (.ref e)) Q E s:=by
 unfold mQ
 refine aa (Zw fr fu hL on st ne λg k1 k2 k3 k4=>?_)
 exact yo (s:={ s with heap:=g }) k1 k2 k3 λg' m1 m2 m3 m4=>k g' m1 m2 m3 (k4.trans λb o hb hn=>⟨o.slots,m4 b o hb hn⟩)
theorem Z4 {h:Heap}{args:List ah}(fr:A.frames=some (env::outer)) (hL:env.frame=some L) (st:B.StaysIn h) (fu:h.FunFrames B (env::outer)) (hx:mI h s.heap e cls args)
  (k:∀g t,B.StaysIn g->g.FunFrames B (env::outer)->OnT g B e cls (.ref t) .none->B.get? e=none->s.heap.UpToSlots g->Q () { s with heap:=g }):ay M A (mQ env (.ref e)) Q E s:=by
 obtain ⟨t,ge,tn,gt⟩:=hx.there
 have new:B.get? e=none:=by
  cases q:B.get? e with
  | none=>rfl
  | some o =>
   have:=st e o q
   rw [hx.new] at this
   cases this
 unfold mQ iF
 simp only [hL]
 refine aa (aa (bw (x:=.none) ge rfl rfl ?_))
 rw [if_neg ⋯]
 refine Qk (a0:=.ref t) fr (fu.of_keeps λb o hb _=>⟨o,hx.keeps b o hb,rfl⟩) hL ge (λb o hb=>hx.keeps b o (st b o hb)) new rfl (by simp) ⟨rfl,rfl⟩ rfl λg k1 k2 k3 k4=>?_
 exact yo (s:={ s with heap:=g }) k1 k2 k3 λg' m1 m2 m3 m4=>k g' t m1 m2 m3 new (k4.trans λb o hb hn=>⟨o.slots,m4 b o hb hn⟩)
end
end L2
end
section
namespace L2
open PySem.W
structure Fly (g:Heap) (H:Hp) (h:Heap) (a:Addr) (cls fl:ah):Prop where
 na:g.get? a=none
 ha:H a=none
 ob:∃oe vs T oT ts a0,h.get? a=some oe/\(oe.cls=cls/\Two vs a0/\oe.dict=none)/\oe.data = .fields vs/\vs[1]? = some (.ref T)/\g.get? T=none/\H T=none/\T≠a/\h.get? T=some oT/\oT.data = .fields ts/\ts[3]? = some fl
theorem Fly.mono {g g':Heap}{H:Hp}{h:Heap}{a:Addr}{cls fl:ah}(f:Fly g H h a cls fl) (l:∀b o,g'.get? b=some o->∃o',g.get? b=some o'):Fly g' H h a cls fl:=by
 have no:∀{b},g.get? b=none->g'.get? b=none:=λ{b} e=>by
  cases q:g'.get? b with
  | none=>rfl
  | some o =>
   obtain ⟨o',e'⟩:=l b o q
   rw [e] at e'
   cases e'
 obtain ⟨oe,vs,T,oT,ts,a0,h1,h2,h3,h4,h5,h6⟩:=f.ob
 exact ⟨no f.na,f.ha,oe,vs,T,oT,ts,a0,h1,h2,h3,h4,no h5,h6⟩
noncomputable def CX1 (P:Program) (w:aU):CXT:=λouter H s E e s' =>
 ∃a cls H',e = .ref a/\s'.os=s.os/\fY s'.gens/\Un (frs outer) [] H H' s.heap s'.heap/\HOk P w H' s'.heap/\Fly s.heap H' s'.heap a cls .none/\E cls none H'
noncomputable def xV (X:Cx) (pins:List (Addr×Obj)) (σ:St) (H':Hp) (s1:Shared) (a:Addr) (cls fl:ah):Prop :=
 ∃s H,Inv X pins σ H s/\s1.os=s.os/\fY s1.gens/\Un (frs X.stack) [] H H' s.heap s1.heap/\HOk X.prog X.w H' s1.heap/\Fly s.heap H' s1.heap a cls fl
theorem kC {P:Program}{w:aU}{H:Hp}{h:Heap}{a:Addr}{o:HO}(x:qw P w H h a o):∃ob,h.get? a=some ob:=by
 cases o with
 | lst xs=>obtain ⟨_,_,_,_,e⟩:=x;exact ⟨_,e⟩
 | tup xs=>obtain ⟨_,_,_,ob,e,_⟩:=x;exact ⟨_,e⟩
 | dK kvs=>obtain ⟨_,_,_,_,ob,_,_,e,_⟩:=x;exact ⟨_,e⟩
 | dT kvs=>obtain ⟨_,_,_,_,ob,_,_,e,_⟩:=x;exact ⟨_,e⟩
 | set S n=>obtain ⟨ob,_,_,_,e,_⟩:=x;exact ⟨_,e⟩
 | ins C dx fs=>obtain ⟨_,_,_,e,_⟩:=x;exact ⟨_,e⟩
 | own y=>exact x
 | xd fs=>obtain ⟨_,⟨_,_,_,e,_⟩,_⟩:=x;exact ⟨_,e⟩
 | rng lo hi=>obtain ⟨_,_,_,e⟩:=x;exact ⟨_,e⟩
 | frz ob u=>obtain ⟨e,_⟩:=x;exact ⟨_,e⟩
 | tbl ps=>exact ⟨_,(show h.get? a=some _ from x)⟩
 | met f y=>exact ⟨_,(show h.get? a=some _ from x)⟩
 | ext φ=>obtain ⟨_,e,_⟩:=x;exact e
section
variable {X:Cx}{pins:List (Addr×Obj)}{σ:St}{H H':Hp}{s s1:Shared}{a:Addr}{cls fl:ah}
theorem xV.inv (f:xV X pins σ H' s1 a cls fl):Inv X pins σ H' s1:=by
 obtain ⟨s,H,I,os,b,u,ok,fy⟩:=f
 exact I.call' os u ok b (λb z=>absurd z (by simp))
theorem xV.fly (hex:X.ex=[]) (f:xV X pins σ H' s1 a cls fl):Fly X.s₀.heap H' s1.heap a cls fl:=by
 obtain ⟨s,H,I,os,b,u,ok,fy⟩:=f
 exact fy.mono λc o e=>I.base.there c o e (by rw [hex];exact λz=>by cases z)
theorem xV.under (f:xV X pins σ H' s1 a cls .none):∃B a0,(B.StaysIn s1.heap/\B.get? a=none/\s1.heap.FunFrames B X.stack/\OnT s1.heap B a cls a0 .none) /\
  ∀h2 fl2,B.StaysIn h2->s1.heap.UpToSlots h2->OnT h2 B a cls a0 fl2->xV X pins σ H' { s1 with heap:=h2 } a cls fl2:=by
 have I1:=f.inv
 obtain ⟨s,H,I,os,b,u,ok,fy⟩:=f
 obtain ⟨oe,vs,T,oT,ts,a0,h1,h2,h3,h4,h5,h6,h7,h8,h9,h10⟩:=fy.ob
 have fr:=I1.stack
 have fs:∀b∈frs X.stack,b≠a/\b≠T:=λb hb=>by
  obtain ⟨_,o,ho,hn⟩:=fr.mem hb
  refine ⟨λz=>?_,λz=>?_⟩
  ·rw [z,h1] at ho;cases ho;exact hn _ h3
  ·rw [z,h8] at ho;cases ho;exact hn _ h9
 have in_:∀env∈X.stack,∀c,env.frame=some c->c∈a::T::frs X.stack:=λenv he c hc=>aK _ (aK _ (List.mem_filterMap.mpr ⟨env,he,hc⟩))
 have noB:∀{c o},s1.heap.get? c=some o->c≠a->c≠T->c∉frs X.stack->(hideAll s1.heap (a::T::frs X.stack)).get? c=some o:=λe n1 n2 n3 =>
  hideAll_get _ e (by simp only [fi,not_or];exact ⟨n1,n2,n3⟩)
 refine ⟨hideAll s1.heap (a::T::frs X.stack),a0,⟨λb o q=>of_hideAll _ q,hideAll_none _ (.head _),rR fr in_,oe,vs,T,oT,ts,h1,h2,h3,h4,hideAll_none _ (.tail _ (.head _)),h7,h8,h9,h10⟩,λhp fl2 st up tr=>?_⟩
 have lo:∀{c o},s.heap.get? c=some o->c≠a/\c≠T:=λ{c o} e=>⟨λz=>(by rw [z,fy.na] at e;cases e),λz=>(by rw [z,h5] at e;cases e)⟩
 have frn:∀{c o},s1.heap.get? c=some o->c∈frs X.stack->∀vs,o.data≠.fields vs:=λe hc=>by
  obtain ⟨_,o',ho,hn⟩:=fr.mem hc
  rw [e] at ho;cases ho;exact hn
 refine ⟨s,H,I,os,b,⟨λc o e n nf nx=>?_,λc o e n hf nx=>?_,λc o e n nx=>u.free c o e n nx,λc o e nx=>?_,u.tups,u.frzs,u.tbls⟩,λc o hc=>?_,?_⟩
 ·exact st _ _ (noB (u.keep c o e n nf nx) (lo e).1 (lo e).2 nf)
 ·obtain ⟨sl,e1⟩:=u.slot c o e n hf nx
  obtain ⟨sl2,e2⟩:=up c _ e1 (frn e1 hf)
  exact ⟨sl2,e2⟩
 ·obtain ⟨o1,e1⟩:=u.there c o e nx
  by_cases hf:c∈frs X.stack
  ·obtain ⟨sl2,e2⟩:=up c _ e1 (frn e1 hf)
   exact ⟨_,e2⟩
  ·exact ⟨o1,st _ _ (noB e1 (lo e).1 (lo e).2 hf)⟩
 ·refine (ok c o hc).stay (λc' o' hc' e=>?_) (λ_ e=>e) λ_ _ e=>e
  have hne:H' c'≠none:=by
   rcases hc' with z | z
   ·rw [z,hc];exact λy=>by cases y
   ·rw [z];exact λy=>by cases y
  exact st _ _ (noB e (λz=>hne (by rw [z];exact fy.ha)) (λz=>hne (by rw [z];exact h6)) λz=>hne (I1.stkFree _ z))
 ·obtain ⟨oe2,vs2,T2,oT2,ts2,g1,g2,g3,g4,g5,g6,g7,g8,g9⟩:=tr
  have key:T2=T\/s1.heap.get? T2=none:=by
   cases q:s1.heap.get? T2 with
   | none=>exact .inr rfl
   | some o =>
    refine .inl ?_
    by_cases hT:T2=T
    ·exact hT
    ·by_cases hf:T2∈frs X.stack
     ·obtain ⟨sl2,e2⟩:=up T2 _ q (frn q hf)
      rw [e2] at g7
      cases g7
      exact absurd g8 (frn q hf _)
     ·have:=noB q g6 hT hf
      rw [g5] at this
      cases this
  refine ⟨fy.na,fy.ha,oe2,vs2,T2,oT2,ts2,a0,g1,g2,g3,g4,?_,?_,g6,g7,g8,g9⟩
  ·rcases key with z | z
   ·rw [z];exact h5
   ·cases q:s.heap.get? T2 with
    | none=>rfl
    | some o =>
     obtain ⟨o',e'⟩:=u.there T2 o q (by simp)
     rw [z] at e'
     cases e'
  ·rcases key with z | z
   ·rw [z];exact h6
   ·cases q:H' T2 with
    | none=>rfl
    | some o =>
     obtain ⟨o',e'⟩:=kC (ok T2 o q)
     rw [z] at e'
     cases e'
theorem xV.leave {Q:Unit->Shared->Prop}{E:ah->Shared->Prop}(f:xV X pins σ H' s1 a cls .none) (st:X.stack=X.env::X.outer) (hf:X.env.frame=some X.env.locals)
  (k:∀h2,xV X pins σ H' { s1 with heap:=h2 } a cls .none->Q () { s1 with heap:=h2 }):ay (aD X.prog X.w) X.A (mQ X.env (.ref a)) Q E s1:=by
 obtain ⟨B,a0,fw,up⟩:=f.under
 have fr:X.A.frames=some (X.env::X.outer):=by rw [<- st];exact f.inv.ok.frames
 rw [st] at fw
 obtain ⟨f1,f2,f3,f4⟩:=fw
 exact YL fr f3 hf f4 f1 f2 λh2 k1 k2 k3 k4=>k h2 (up h2 .none k1 k4 k3)
theorem Z5 {vs:List ah}{h1:Heap}{Q:Unit->Shared->Prop}{E:ah->Shared->Prop}(I:Inv X pins σ H s) (hx:mI s.heap h1 a cls vs) (st:X.stack=X.env::X.outer) (hf:X.env.frame=some X.env.locals)
  (k:∀h2,xV X pins σ H { s with heap:=h2 } a cls .none->Q () { s with heap:=h2 }):ay (aD X.prog X.w) X.A (mQ X.env (.ref a)) Q E { s with heap:=h1 }:=by
 have fr:X.A.frames=some (X.env::X.outer):=by rw [<- st];exact I.ok.frames
 have fun0:=I.stack
 have in_:∀env∈X.stack,∀c,env.frame=some c->c∈frs X.stack:=λenv he c hc=>List.mem_filterMap.mpr ⟨env,he,hc⟩
 have fun1:=rR fun0 in_
 have frn:∀{c o},s.heap.get? c=some o->c∈frs X.stack->∀vs,o.data≠.fields vs:=λe hc=>by
  obtain ⟨_,o',ho,hn⟩:=fun0.mem hc
  rw [e] at ho;cases ho;exact hn
 rw [st] at fun1
 refine Z4 (s:={ s with heap:=h1 }) (B:=hideAll s.heap (frs (X.env::X.outer))) (h:=s.heap) fr hf (λb o q=>of_hideAll _ q) fun1 hx λh2 t b1 b2 fw b3 up=>?_
 rw [<- st] at fw b1
 obtain ⟨oe,ws,T,oT,ts,g1,g2,g3,g4,g5,g6,g7,g8,g9⟩:=fw
 have keepB:∀{c o},s.heap.get? c=some o->c∉frs X.stack->h2.get? c=some o:=λe n=>b1 _ _ (hideAll_get _ e n)
 have slotB:∀{c o},s.heap.get? c=some o->c∈frs X.stack->∃sl,h2.get? c=some { o with slots:=sl }:=λ{c o} e hc=>up c o (hx.keeps _ _ e) (frn e hc)
 have nT:s.heap.get? T=none:=by
  cases q:s.heap.get? T with
  | none=>rfl
  | some o =>
   exfalso
   by_cases hc:T∈frs X.stack
   ·obtain ⟨sl,e⟩:=slotB q hc
    rw [e] at g7
    cases g7
    exact frn q hc _ g8
   ·rw [hideAll_get _ q hc] at g5
    cases g5
 have hn:∀{c},s.heap.get? c=none->H c=none:=λ{c} e=>by
  cases q:H c with
  | none=>rfl
  | some o =>
   obtain ⟨o',e'⟩:=kC (I.hok c o q)
   rw [e] at e'
   cases e'
 refine k h2 ⟨s,H,I,rfl,I.bare,⟨λc o e n nf nx=>keepB e nf,λc o e n hf nx=>slotB e hf,λc o e n nx=>n,λc o e nx=>?_,λ_ _ e=>e,λ_ _ _ e=>e,λc ps e=>⟨#[],by rw [e];simp⟩⟩,λc o hc=>?_,hx.new,hn hx.new,oe,ws,T,oT,ts,.ref t,g1,g2,g3,g4,nT,hn nT,g6,g7,g8,g9⟩
 ·by_cases hc:c∈frs X.stack
  ·obtain ⟨sl,e2⟩:=slotB e hc
   exact ⟨_,e2⟩
  ·exact ⟨o,keepB e hc⟩
 ·refine (I.hok c o hc).stay (λc' o' hc' e=>?_) (λ_ e=>e) λ_ _ e=>e
  refine keepB e λz=>?_
  have:=I.stkFree _ z
  rcases hc' with y | y
  ·rw [y,hc] at this;cases this
  ·rw [y] at this;cases this
end
noncomputable def Acc (X:Cx) (J:ah->St->Hp->Prop):Prop:=∀(pins:List (Addr×Obj)) (σ:St) (H':Hp) (s1:Shared) (a:Addr) (cls:ah),xV X pins σ H' s1 a cls .none->J cls σ H'->X.xe (.ref a) s1
noncomputable def Wr (sp:Sp) (J:ah->St->Hp->Prop) (t:TA):TE:=λσ H Q=>t σ H λvs H1=>sp vs H1 Q λcls _ H'=>J cls σ H'
structure CalX (P:Program) (w:aU) (K:ai) (mg:Str->Option ah) (base:Heap) (k:Nat) (x:Str) (ps:List Str) (sp:Sp):Prop where
 ex:∃f fd,FnOk P w K mg base (CX1 P w) k f fd ps sp/\y9 K fd ps []/\mg x=some (.ref f)/\bK K (.ref f)=true
theorem zi {X:Cx}{k:Nat}{x:Str}{ps:List Str}{sp:Sp}{e:Expr}{es:List Expr}{t:TA}{p pos:Pos}{J:ah->St->Hp->Prop}(c:CalX X.prog X.w X.K X.mg X.base k x ps sp) (hr:Room k X.A) (ac:Acc X J) (hg:Gl X x) (ha:PA X (e::es) t)
  (hdb:(x == ("__debug__" : Str))=false:=by decide) (he:aN (e::es) X.env=(false,eval e X.env)::aN es X.env:=by rfl) (hpl:(cT pos (aN es X.env)).any (·.1)=false:=by rfl) :
  PE X (.Call (.Name x p) (e::es) [] pos) (Wr sp J t):=by
 obtain ⟨f,fd,F,hb,hm,hk⟩:=c.ex
 intro pins s σ H Q I h
 refine cU (ym I hg hm ?_ hdb)
 refine dj (h₀:=X.base) I.ok.mod.kin hk (thn (ha pos pins s σ H _ I h) λus s1 ⟨vs,H1,I1,r,q⟩=>⟨I1.kIn,?_⟩) he hpl
 have hl:us.length=ps.length:=by rw [<- r.length];exact F.len _ _ _ _ q
 have hb':=hb s1 us I1.kIn (by rw [aP];exact hl)
 rw [aP] at hb'
 refine fm (de (F.run X.A X.stack s1 H1 ⟨us,[]⟩ us vs Q _ hr I1.env0 hb' r q) λr s' hq=>?_)
 cases r with
 | error e =>
  obtain ⟨a,cls,H',rfl,os,b,u,ok,fy,j⟩:=hq
  exact ac pins σ H' s' a cls ⟨s1,H1,I1,os,b,u,ok,fy⟩ j
 | ok fl =>
  cases fl with
  | ret u=>exact I1.after hq
  | next=>exact bp hq
  | brk=>exact bp hq
  | cont=>exact bp hq
theorem CalX.cal {P:Program}{w:aU}{K:ai}{mg:Str->Option ah}{base:Heap}{k:Nat}{x:Str}{ps:List Str}{sp:Sp}(c:CalX P w K mg base k x ps sp):Cal P w K mg base k x ps (λvs H Q _=>sp vs H Q E0):=by
 obtain ⟨f,fd,F,hb,hm,hk⟩:=c.ex
 refine ⟨f,fd,⟨λvs H Q E h=>F.len vs H Q E0 h,λA outer s H args us vs Q E hr he hb hv hs=>de (F.run A outer s H args us vs Q E0 hr he hb hv hs) λr s' q=>?_⟩,hb,hm,hk⟩
 cases r with
 | error e =>
  obtain ⟨a,cls,H',_,_,_,_,_,_,j⟩:=q
  exact bp j
 | ok fl =>
  cases fl with
  | ret u=>exact q
  | next=>exact q
  | brk=>exact q
  | cont=>exact q
theorem ze {P:Program}{w:aU}{K:ai}{mg:Str->Option ah}{base:Heap}{N:List Str}{qual:Str}{scope:Scope}{f:Addr}{cd:ah}{A:b9}{outer:List Env}{s:Shared}{H:Hp}{E:XK} :
  Acc (vp (CX1 P w) P w K mg base N qual scope f cd A outer s H E) λcls _ H'=>E cls none H':=by
 intro pins σ H' s1 a cls fl j
 refine xV.leave (X:=vp (CX1 P w) P w K mg base N qual scope f cd A outer s H E) fl rfl rfl λh2 f2=>?_
 exact ⟨a,cls,H',rfl,f2.inv.os,f2.inv.bare,f2.inv.base,f2.inv.hok,f2.fly rfl,j⟩
noncomputable def G6 (X:Cx) (J:ah->St->Hp->Prop):Prop:=∀(pins:List (Addr×Obj)) (σ:St) (H:Hp) (s:Shared) (h1:Heap) (a:Addr) (cls:ah) (vs:List ah),Inv X pins σ H s->mI s.heap h1 a cls vs->J cls σ H->X.xe (.ref a) { s with heap:=h1 }
theorem xN {P:Program}{w:aU}{K:ai}{mg:Str->Option ah}{base:Heap}{N:List Str}{qual:Str}{scope:Scope}{f:Addr}{cd:ah}{A:b9}{outer:List Env}{s:Shared}{H:Hp}{E:XK} :
  G6 (vp (CX1 P w) P w K mg base N qual scope f cd A outer s H E) λcls _ H'=>E cls none H':=by
 intro pins σ H' s1 h1 a cls vs I hx j
 refine Z5 (X:=vp (CX1 P w) P w K mg base N qual scope f cd A outer s H E) I hx rfl rfl λh2 f2=>?_
 exact ⟨a,cls,H',rfl,f2.inv.os,f2.inv.bare,f2.inv.base,f2.inv.hok,f2.fly rfl,j⟩
theorem UN {K:ai}{h:Heap}{C:Addr}{bmB:List ah}{newId:String}(X:K.In h) (q:excIn K C bmB newId=true) :
  ∃bm N nm q bs hdct sn sub ab col dd k0 k1 k2 k3 k5 mN,h.get? C=some (excClassObj nm q C N bs bm hdct sn sub ab col dd k0 k1 k2 k3 k5 newId)/\h.Ns N mN/\mN "__init__" = none/\OwnTail h bmB bm:=by
 unfold excIn at q
 split at q
 ·rename_i dd cd sl ho
  split at q
  ·rename_i C' bm k0 k1 k2 k3 n k5 em es
   simp only [ba,beq_iff_eq,Bool.not_eq_true'] at q
   obtain ⟨⟨⟨⟨⟨rfl,rfl⟩,e1⟩,e2⟩,e3⟩,e4⟩:=q
   obtain ⟨nm,bs,mro,ns,qn,hd,sn,sub,ab,col,del⟩:=cd
   dsimp only at em e1 e3 e4
   subst em e1
   have e5:sl = #[k0,k1,k2,k3,some (.builtin n),k5]:=by obtain ⟨l⟩:=sl;simp only at es;rw [es]
   subst e5
   exact ⟨bm,ns,nm,qn,bs,hd,sn,sub,ab,col,dd,k0,k1,k2,k3,k5,_,X _ _ ho,.of_isNs (isNs_of_in X e3),nsMap_none_of_in X e3 e4,tail_of_in X e2⟩
  ·cases q
 ·cases q
theorem xc {X:Cx}{x:Str}{np cpos pos:Pos}{e:Expr}{es:List Expr}{t:TA}{C:Addr}{B newId initId:String}{bmB:List ah}{J:ah->St->Hp->Prop}(FB:ExcBaseFacts B newId initId bmB) (O:excIn X.K C bmB newId=true) (hm:X.mg x=some (.ref C)) (hc:X.calm=true) (am:G6 X J)
  (hg:Gl X x) (ha:PA X (e::es) t) (hdb:(x == ("__debug__" : Str))=false:=by decide) (he:aN (e::es) X.env=(false,eval e X.env)::aN es X.env:=by rfl) (hpl:(cT cpos (aN es X.env)).any (·.1)=false:=by rfl) :
  PS X (.Raise (some (.Call (.Name x np) (e::es) [] cpos)) none pos) (λD σ H=>t σ H λvs H1=>vs.length<=sizeLine/\J (.ref C) σ H1):=by
 intro pins s σ H D I h
 obtain ⟨bm,N,nm,q,bs,hdct,sn,sub,ab,col,dd,k0,k1,k2,k3,k5,mN,hC,hN,hni,T⟩:=UN I.ok.mod.kin O
 have h':=ha cpos pins s σ H _ I h
 rw [he] at h'
 refine wpAny_Raise_call_subT (C:=C) (nm:=nm) (q:=q) (N:=N) (bs:=bs) (bm:=bm) (hdct:=hdct) (sn:=sn) (sub:=sub) (ab:=ab) (col:=col) (dd:=dd) (k0:=k0) (k1:=k1) (k2:=k2) (k3:=k3) (k5:=k5)
  FB (mN:=mN) (T.hasType FB.hasBase) (I.ok.hd hc) (by rw [he];show (false || (cT cpos (aN es X.env)).any (·.1))=false;rw [hpl];rfl) hni (ym I hg hm ⟨rfl,?_⟩ hdb)
 rw [he]
 refine i9 (thn h' λus s2 ⟨vs,H2,I2,r,hl,j⟩=>⟨rfl,by rw [<- r.length];exact hl,I2.bk _ _ hC,hN.keeps I2.bk,T.keeps I2.bk,λh1 a hx=>am pins σ H2 s2 h1 a (.ref C) _ I2 hx j⟩)
theorem Fun.okX {P:Program}{w:aU}{K:ai}{mg:Str->Option ah}{base:Heap}{x qual:Str}{st:Stmt}{f:Addr}{fd:FuncData}{N ps:List Str}{k:Nat}{sp:Sp}(F:Fun K x qual st f fd) (S:FnScope N ps (j9 st)) (len:∀vs H Q E,sp vs H Q E->vs.length=ps.length)
  (hbody:∀(cdv:ah) (A:b9) (outer:List Env) (s:Shared) (H:Hp) (vs:List V) (Q:VK) (E:XK),Room k (A.deeper (ie qual (j9 st) s.heap.objs.size f cdv))->sp vs H Q E ->
   ∃t,PSs (vp (CX1 P w) P w K mg base N qual (j9 st) f cdv A outer s H E) (jO st) t/\t { nx:=λ_ H'=>Q .non H',rt:=Q } (start N vs) H):FnOk P w K mg base (CX1 P w) (k+1) f fd ps sp:=by
 obtain ⟨oc,od,kV,doc,pm,an,cdv,ct,osl,rfl,lk,hcd⟩:=F.ex
 exact Yz lk hcd S len λA outer s H vs Q E hr hsp=>hbody cdv A outer s H vs Q E hr hsp
theorem CalX.mk' {P:Program}{w:aU}{K:ai}{mg:Str->Option ah}{base:Heap}{k:Nat}{x:Str}{ps:List Str}{sp:Sp}{st:Stmt}{h:Heap}{f:Addr}{oc:ah}{od an:Option Addr}{osl:Array (Option ah)}{kV doc pm cdv ct:ah}
  (X:K.In h) (G:h.Ns mainGlobals mg) (a:aQ K mainGlobals x=some (some (.ref f)))
  (l:K.lookup f=some ⟨oc,od,.func (bD x x (jY st) (jO st) (j9 st) .none kV doc pm an cdv ct),osl⟩) (c:cz K cdv x=true) (k':bK K (.ref f)=true)
  (hb:∀(kV doc pm:ah) (an:Option Addr) (cdv ct:ah) (us:List ah),us.length=ps.length->cC (bD x x (jY st) (jO st) (j9 st) .none kV doc pm an cdv ct) ⟨us,[]⟩=pure (ps.zip us))
  (ok:∀{f:Addr} {fd:FuncData},Fun K x x st f fd->FnOk P w K mg base (CX1 P w) k f fd ps sp):CalX P w K mg base k x ps sp:=by
 have F:=vQ (st:=st) l c k'
 exact ⟨f,_,ok F,F.binds hb,aM X G a,k'⟩
end L2
end
section
namespace L2
open PySem.W
noncomputable abbrev Cx.atP (X:Cx) (pn:List (Addr×Obj)):Cx:={ X with pn:=pn }
noncomputable abbrev Cx.tryX (X:Cx) (pn:List (Addr×Obj)) (J:ah->St->Hp->Prop):Cx:={ X with pn:=pn,xe:=λe s1=>∃a cls σ' H',e = .ref a/\xV (X.atP pn) [] σ' H' s1 a cls .none/\J cls σ' H' }
noncomputable abbrev Cx.hand (X:Cx) (a:Addr):Cx:={ X with A:=X.A.mark (some (.ref a)),calm:=false,xe:=λ_ _=>False }
section
variable {X:Cx}{pins pn:List (Addr×Obj)}{σ:St}{H:Hp}{s:Shared}{J:ah->St->Hp->Prop}
theorem okP (ok:X.Ok) (Y:Cx) (h:Y={ X with pn:=Y.pn,xe:=Y.xe }):Y.Ok:=by
 rw [h]
 exact ⟨ok.mod,ok.kind,ok.glob,ok.blt,ok.above,ok.inj,ok.has,ok.cab,ok.hd,ok.frames,ok.stk,ok.exf,ok.bs,ok.bsz,ok.noex,ok.exfs,ok.funs,ok.frf⟩
theorem Inv.toTry (I:Inv X pins σ H s):Inv (X.tryX (X.pn++pins) J) [] σ H s :=
 ⟨okP I.ok _ rfl,I.os,I.bare,I.base,I.loc,I.cell,I.free,I.freeC,λp hp=>I.pin p (by rw [aP] at hp;exact hp),I.hok,I.len⟩
theorem Inv.ofTry (I:Inv (X.tryX pn J) pins σ H s):Inv (X.atP pn) [] σ H s :=
 ⟨okP I.ok _ rfl,I.os,I.bare,I.base,I.loc,I.cell,I.free,I.freeC,λp hp=>I.pin p (cB _ (by rw [aP] at hp;exact hp)),I.hok,I.len⟩
theorem Inv.ofP (I:Inv (X.atP (X.pn++pins)) [] σ H s):Inv X pins σ H s :=
 ⟨okP I.ok _ rfl,I.os,I.bare,I.base,I.loc,I.cell,I.free,I.freeC,λp hp=>I.pin p (by rw [aP];exact hp),I.hok,I.len⟩
theorem Inv.ofTryP (I:Inv (X.tryX (X.pn++pins) J) [] σ H s):Inv X pins σ H s:=Inv.ofP (Inv.ofTry I)
theorem Inv.toHand (a:Addr) (I:Inv X pins σ H s):Inv (X.hand a) pins σ H s :=
 ⟨⟨I.ok.mod,I.ok.kind,I.ok.glob,I.ok.blt,I.ok.above,I.ok.inj,I.ok.has,I.ok.cab,(λz=>(by cases z)),I.ok.frames,I.ok.stk,I.ok.exf,I.ok.bs,I.ok.bsz,I.ok.noex,I.ok.exfs,I.ok.funs,I.ok.frf⟩,I.os,I.bare,I.base,I.loc,I.cell,I.free,I.freeC,I.pin,I.hok,I.len⟩
theorem spOf {Y:Cx}{pins':List (Addr×Obj)}{D:Ends}{f:Flow}{s':Shared}(g:∀{σ H},Inv Y pins' σ H s'->Inv X pins σ H s') (h:SP Y pins' D f s'):SP X pins D f s':=by
 cases f with
 | next=>obtain ⟨σ',H',I,q⟩:=h;exact ⟨σ',H',g I,q⟩
 | brk=>obtain ⟨σ',H',I,q⟩:=h;exact ⟨σ',H',g I,q⟩
 | cont=>obtain ⟨σ',H',I,q⟩:=h;exact ⟨σ',H',g I,q⟩
 | ret u=>obtain ⟨v,σ',H',I,r,q⟩:=h;exact ⟨v,σ',H',g I,r,q⟩
theorem vj:Acc (X.tryX pn J) J:=by
 intro pins σ H' s1 a cls f j
 obtain ⟨s,H,I,os,b,u,ok,fy⟩:=f
 exact ⟨a,cls,σ,H',rfl,⟨s,H,Inv.ofTry I,os,b,u,ok,fy⟩,j⟩
end
end L2
end
section
namespace L2
open PySem.W
section
variable {s:Shared}{A:b9}{prog:Program}{w:aU}{E:ah->Shared->Prop}
end
section
variable {X:Cx}
end
end L2
end
section
namespace L2
open PySem.W
end L2
end
section
namespace L2
open PySem.W
section
variable {X:Cx}{o e:Expr}{es:List Expr}{to:TE}{t:TA}{name:Str}{apos cpos:Pos}{id:String}{r:V->List V->Hp->VK->Prop}
end
end L2
end
section
namespace L2
open PySem.W
noncomputable abbrev wt (ifs:List Expr) (env:Env):Sem Bool:=sM ifs true λc r=>if r=true then do let ok <- isTrue c env (eval c env);pure (bU ok) else pure (bU r)
noncomputable abbrev xq (elt tg iter tg2 iter2:Expr) (ifs ifs2:List Expr) (scope:Scope) (pos:Pos):Expr:=.ListComp elt [⟨tg,iter,ifs,0⟩,⟨tg2,iter2,ifs2,0⟩] scope pos
theorem ZQ (elt tg iter tg2 iter2:Expr) (ifs ifs2:List Expr) (scope:Scope) (pos:Pos) (it acc:ah) (env:Env) :
  oF (xq elt tg iter tg2 iter2 ifs ifs2 scope pos) 0 it acc env=(fZ iter.pos >>= λ_=>eY it >>= λr=>match r with
   | none=>pure (.done .next)
   | some v=>cQ tg it v >>= λ_=>fU tg env v >>= λ_=>wt ifs env >>= λok =>
    (if ok=true then (eval iter2 env >>= λx=>fZ iter2.pos >>= λ_=>cn iter2 env x >>= λx=>i0 [x] (iZ x) >>= λi2=>runOwn (.compStart (xq elt tg iter tg2 iter2 ifs ifs2 scope pos) 1 i2 acc env) env >>= λ_=>again (.compLoop (xq elt tg iter tg2 iter2 ifs ifs2 scope pos) 0 it acc env))
     else again (.compLoop (xq elt tg iter tg2 iter2 ifs ifs2 scope pos) 0 it acc env))):=by
 rfl
theorem YC (elt tg iter tg2 iter2:Expr) (ifs ifs2:List Expr) (scope:Scope) (pos:Pos) (it acc:ah) (env:Env) :
  oF (xq elt tg iter tg2 iter2 ifs ifs2 scope pos) 1 it acc env=(fZ iter2.pos >>= λ_=>eY it >>= λr=>match r with
   | none=>pure (.done .next)
   | some v=>cQ tg2 it v >>= λ_=>fU tg2 env v >>= λ_=>wt ifs2 env >>= λok =>
    (if ok=true then ((eval elt env >>= λx=>call (.builtin "list.append") [acc,x] >>= λ_=>pure ()) >>= λ_=>again (.compLoop (xq elt tg iter tg2 iter2 ifs ifs2 scope pos) 1 it acc env))
     else again (.compLoop (xq elt tg iter tg2 iter2 ifs ifs2 scope pos) 1 it acc env))):=by
 rfl
section
variable {s:Shared}{A:b9}{prog:Program}{w:aU}{R:mq->Shared->Prop}{elt tg iter tg2 iter2:Expr}{ifs ifs2:List Expr}{scope:Scope}{pos:Pos}{it acc:ah}{env:Env}
theorem V0 (I:Nat->Shared->Prop)
  (turn:∀n s,I n s->ay (aD prog w) A (eY it) (λr s₁=>match r with
   | none=>R (.ok .next) s₁
   | some v=>ay (aD prog w) A (cQ tg2 it v) (λ_ s₂=>ay (aD prog w) A (fU tg2 env v) (λ_ s₃=>ay (aD prog w) A (wt ifs2 env) (λok s₄ =>
      if ok=true then ay (aD prog w) A (eval elt env) (λx s₅=>ay (aD prog w) A (call (.builtin "list.append") [acc,x]) (λ_ s₆=>∃m,m<n/\I m s₆) (λ_ _=>False) s₅) (λ_ _=>False) s₄
      else ∃m,m<n/\I m s₄) (λ_ _=>False) s₃) (λ_ _=>False) s₂) (λ_ _=>False) s₁) (λ_ _=>False) s)
  (n:Nat) (h:I n s):cX (aD prog w) A (.compLoop (xq elt tg iter tg2 iter2 ifs ifs2 scope pos) 1 it acc env) R s:=by
 refine oE rfl I (λn s hI=>?_) n h
 show ay _ A ((oF (xq elt tg iter tg2 iter2 ifs ifs2 scope pos) 1 it acc env).onRaise (λx=>do iF x env;lY x)) _ _ s
 refine pJ ?_;rw [YC]
 refine aa (cW (aa (aW (turn n s hI) (λr s₁ h₁=>?_) λ_ _ h'=>h'.elim)))
 cases r with
 | none=>exact wpAny_pure h₁
 | some v =>
  refine aa (aW h₁ (λ_ s₂ h₂=>?_) λ_ _ h'=>h'.elim)
  refine aa (aW h₂ (λ_ s₃ h₃=>aa (aW h₃ (λok s₄ h₄=>?_) λ_ _ h'=>h'.elim)) λ_ _ h'=>h'.elim)
  cases ok with
  | false=>exact wpAny_pure ⟨rfl,h₄⟩
  | true=>exact aa (aa (aW h₄ (λx s₅ h₅=>aa (aW h₅ (λ_ s₆ h₆=>wpAny_pure (wpAny_pure ⟨rfl,h₆⟩)) λ_ _ h'=>h'.elim)) λ_ _ h'=>h'.elim))
theorem Yl {R:mq->Shared->Prop}(h0:cX (aD prog w) A (.compLoop (xq elt tg iter tg2 iter2 ifs ifs2 scope pos) 1 it acc env) R s)
  (h:ay (aD prog w) A (iZ it) (λi2 s'=>cX (aD prog w) A (.compLoop (xq elt tg iter tg2 iter2 ifs ifs2 scope pos) 1 i2 acc env) R s') (λ_ _=>False) s) :
  cX (aD prog w) A (.compStart (xq elt tg iter tg2 iter2 ifs ifs2 scope pos) 1 it acc env) R s:=by
 refine codeAny_of_tree ?_
 show ay _ _ ((compStart (xq elt tg iter tg2 iter2 ifs ifs2 scope pos) 1 it acc env).onRaise (λx=>do iF x env;fZ theWindowsPlace)) _ _ s
 refine wpAny_notedAt ?_;unfold compStart;show ay _ _ (ask >>= _) _ _ s
 refine aa (wpAny_askSetting (wpAny_ite ?_))
 split
 ·first | exact aa (wpAny_pure (wpAny_pure (fF rfl h0))) | exact wpAny_pure (fF rfl h0)
 ·first
   | exact aa (fq (aa (cW (aa (aW h (λi2 s' h'=>wpAny_pure (fF rfl h')) λ_ _ x=>x.elim)))))
   | (refine aa (fq ?_);show ay _ _ (fZ iter2.pos >>= _) _ _ s;exact aa (cW (aa (aW h (λi2 s' h'=>wpAny_pure (fF rfl h')) λ_ _ x=>x.elim))))
theorem ZK (I:Nat->Shared->Prop) (hs2:∀x,cn iter2 env x=pure x)
  (turn:∀n s,I n s->ay (aD prog w) A (eY it) (λr s₁=>match r with
   | none=>R (.ok .next) s₁
   | some v=>ay (aD prog w) A (cQ tg it v) (λ_ s₂=>ay (aD prog w) A (fU tg env v) (λ_ s₃=>ay (aD prog w) A (wt ifs env) (λok s₄ =>
      if ok=true then ay (aD prog w) A (eval iter2 env) (λx s₅=>ay (aD prog w) A (iZ x) (λi2 s₆=>cX (aD prog w) A (.compStart (xq elt tg iter tg2 iter2 ifs ifs2 scope pos) 1 i2 acc env) (λr s'=>match r with | .ok _=>∃m,m<n/\I m s' | .error _=>False) s₆) (λ_ _=>False) s₅) (λ_ _=>False) s₄
      else ∃m,m<n/\I m s₄) (λ_ _=>False) s₃) (λ_ _=>False) s₂) (λ_ _=>False) s₁) (λ_ _=>False) s)
  (n:Nat) (h:I n s):cX (aD prog w) A (.compLoop (xq elt tg iter tg2 iter2 ifs ifs2 scope pos) 0 it acc env) R s:=by
 refine oE rfl I (λn s hI=>?_) n h
 show ay _ A ((oF (xq elt tg iter tg2 iter2 ifs ifs2 scope pos) 0 it acc env).onRaise (λx=>do iF x env;lY x)) _ _ s
 refine pJ ?_;rw [ZQ]
 refine aa (cW (aa (aW (turn n s hI) (λr s₁ h₁=>?_) λ_ _ h'=>h'.elim)))
 cases r with
 | none=>exact wpAny_pure h₁
 | some v =>
  refine aa (aW h₁ (λ_ s₂ h₂=>?_) λ_ _ h'=>h'.elim)
  refine aa (aW h₂ (λ_ s₃ h₃=>aa (aW h₃ (λok s₄ h₄=>?_) λ_ _ h'=>h'.elim)) λ_ _ h'=>h'.elim)
  cases ok with
  | false=>exact wpAny_pure ⟨rfl,h₄⟩
  | true =>
   refine aa (aW h₄ (λx s₅ h₅=>aa (cW (aa (mF (hs2 x) (aa (bC (aW h₅ (λi2 s₆ h₆=>aa (wpAny_runOwn ?_)) λ_ _ h'=>h'.elim))))))) λ_ _ h'=>h'.elim)
   rw [Around.mark_none]
   refine de h₆ λr s' q=>?_
   cases r with
   | ok f=>exact wpAny_pure ⟨rfl,q⟩
   | error e=>exact q.elim
end
noncomputable def ku (acc:Addr) (g2:TG) (ti2:TT) (te:TE) (J2:It) (NX:St->Hp->Prop) (σ3:St) (H5:Hp):Prop :=
 ∃W2:Nat->Nat->St->Hp->Prop,(∃m,W2 0 m σ3 H5)/\∀j m σ6 H6,W2 j m σ6 H6->(J2.stop j H6/\NX σ6 H6)\/(J2.go j H6/\∃NX2:St->Hp->Prop,(∀σ7 H7,NX2 σ7 H7->∃m',m'<m/\W2 (j+1) m' σ7 H7) /\
  ∀y H7,J2.yld j H6 y H7->g2 y σ6 H7 λσ8 H8=>ti2 σ8 H8 λok2 H9=>if ok2=true then te σ8 H9 λv H10=>∃ys,H10 acc=some (.lst ys)/\ys.length<sizeLine/\NX2 σ8 (upd H10 acc (.lst (ys++[v]))) else NX2 σ8 H9)
section
variable {X:Cx}{pos:Pos}
noncomputable def Wo (own:Nat) (caps:List Nat) (wi:TI) (g:TG) (ti:TT) (wi2:TI) (g2:TG) (ti2:TT) (te:TE):TE:=λσ H Q=>wi σ H λJ H1=>∀acc,H1 acc=none ->
 ∃W:Nat->Nat->St->Hp->Prop,(∃m,W 0 m (yA own caps σ) (upd H1 acc (.lst [])))/\∀i m σ' H',W i m σ' H' ->
  (J.stop i H'/\Q (.ref acc) H') \/
  (J.go i H'/\∃NX:St->Hp->Prop,(∀σ2 H2,NX σ2 H2->∃m',m'<m/\W (i+1) m' σ2 H2) /\
   ∀x H2,J.yld i H' x H2->g x σ' H2 λσ3 H3=>ti σ3 H3 λok H4=>if ok=true then wi2 σ3 H4 λJ2 H5=>ku acc g2 ti2 te J2 NX σ3 H5 else NX σ3 H4)
theorem Y3 {osc:Scope}{ON N:List Str}{scope:Scope}{own:Nat}{caps:List Nat}{cl:List (Str×Addr)}{tg elt iter tg2 iter2:Expr}{ifs ifs2:List Expr}{g g2:TG}{ti ti2:TT}{wi2:TI}{te:TE}{pins:List (Addr×Obj)}{σ:St}{H:Hp}{s:Shared}{fp:List Addr}{it:Addr}
  {tn:Nat->Heap->Prop} {J:It} {Q:VK} {RR:ah->Addr->mq->Shared->Prop} {E:ah->Shared->Prop}
  (hc:X.calm=true) (S:CompSc osc ON scope own N caps) (hsc:X.env.scope=osc) (hN:X.N=ON) (hcl:∀x,cl.lookup x=if (x,bc)∈scope.names then X.env.cells.lookup x else none)
  (hg:∀cl C s H ex,PG (X.block scope cl C N s H ex) tg g) (hif:∀cl C s H ex,wR (X.block scope cl C N s H ex) ifs ti) (hi2:∀cl C s H ex,PI (X.block scope cl C N s H ex) tg2 iter2 wi2) (hg2:∀cl C s H ex,PG (X.block scope cl C N s H ex) tg2 g2) (hif2:∀cl C s H ex,wR (X.block scope cl C N s H ex) ifs2 ti2) (he:∀cl C s H ex,PE (X.block scope cl C N s H ex) elt te) (hs2:∀env x,cn iter2 env x=pure x)
  (I:Inv X pins σ H s) (T:Turn X.prog X.w X.K tg J fp it tn) (st:tn 0 s.heap) (hf:∀b∈fp,yj X pins H b)
  (hw:∀acc,H acc=none->∃W:Nat->Nat->St->Hp->Prop,(∃m,W 0 m (yA own caps σ) (upd H acc (.lst [])))/\∀i m σ' H',W i m σ' H' ->
   (J.stop i H'/\Q (.ref acc) H')\/(J.go i H'/\∃NX:St->Hp->Prop,(∀σ2 H2,NX σ2 H2->∃m',m'<m/\W (i+1) m' σ2 H2) /\
    ∀x H2,J.yld i H' x H2->g x σ' H2 λσ3 H3=>ti σ3 H3 λok H4=>if ok=true then wi2 σ3 H4 λJ2 H5=>ku acc g2 ti2 te J2 NX σ3 H5 else NX σ3 H4))
  (fin:∀(D C:Addr) (H':Hp) (s':Shared),Inv X pins σ H' s'->BlockAt X pins H' C->(∃m,s'.heap.Ns C m)->Q (.ref D) H'->RR (.ref D) C (.ok .next) s') :
  ay (aD X.prog X.w) X.A (oG []) (λacc s₃=>ay (aD X.prog X.w) X.A (mx scope X.env.globals cl [] X.env.qual none .none (some X.env)) (λcenv s₄ =>
   cX (aD X.prog X.w) X.A (.compStart (xq elt tg iter tg2 iter2 ifs ifs2 scope pos) 0 (.ref it) acc { cenv with scope:=sA scope X.env }) (RR acc cenv.locals) s₄) E s₃) E s:=by
 have hfs:∀b∈fp,b<s.heap.objs.size:=λb hb=>by
  obtain ⟨o,e,_⟩:=T.obj _ _ st b hb
  exact aw e
 refine bx (ia S.nocell (by intro y hy;simp at hy) (λh₁ hns₁ hsb₁=>?_) S.kind)
 dsimp only at hns₁ hsb₁ ⊢
 generalize hH2:s.heap.push { cls:=.type "list",dict:=none,data:=.seq ([]:List ah).toArray }=H2 at hns₁ hsb₁ ⊢
 have hCsz:H2.objs.size=s.heap.objs.size+1:=by rw [<- hH2,cx]
 have old:∀b o,s.heap.get? b=some o->h₁.get? b=some o:=λb o e=>hsb₁.extBut b o (aB (by rw [hCsz];exact c5 (aw e))) (ak _ (hH2 ▸ ak _ e))
 have eD:h₁.get? s.heap.objs.size=some { cls:=.type "list",data:=.seq #[] }:=hsb₁.extBut _ _ (aB ∅) (ak _ (hH2 ▸ aA _ rfl))
 have hDn:H s.heap.objs.size=none:=I.hok.fresh (av _)
 obtain ⟨W,⟨m0,w0⟩,turn⟩:=hw s.heap.objs.size hDn
 have hns:h₁.Ns H2.objs.size λ_=>none:=hns₁
 have I1:Inv (X.block scope cl H2.objs.size N s H fp) [] (yA own caps σ) (upd H s.heap.objs.size (.lst [])) { s with heap:=h₁,toks:=s.toks+([]:List (Str×ah)).length } :=
  yL S hsc hN hcl I hf hfs rfl hCsz old eD hns _
 have st1:tn 0 h₁:=T.keep 0 _ _ st λb _ o e=>old b o e
 have fpB:∀{H':Hp},(∀b∈fp,H' b=none)->∀b∈fp,yj (X.block scope cl H2.objs.size N s H fp) [] H' b:=λ{H'} hn b hb=>by
  have ok:=I1.ok
  exact ⟨hn b hb,(ok.exf b hb).1,ok.exfs b hb,.inl hb,(ok.exf b hb).2,λp hp=>absurd (show p∈([]:List (Addr×Obj)) from hp) (by simp)⟩
 have back:∀{σ':St} {H':Hp} {s':Shared},Inv (X.block scope cl H2.objs.size N s H fp) [] σ' H' s'->Q (.ref s.heap.objs.size) H'->RR (.ref s.heap.objs.size) H2.objs.size (.ok .next) s':=λ{σ' H' s'} J1 q=>by
  have J2:Inv X pins σ H' s':=I.call' (ch:=fp) J1.os J1.base J1.hok J1.bare λb hb=>⟨(hf b hb).2.2.2.1,(hf b hb).2.1,(hf b hb).2.2.2.2.1,(hf b hb).2.2.2.2.2⟩
  obtain ⟨m,hm,_⟩:=J1.loc
  refine fin _ _ H' s' J2 ⟨J1.free,cG (aI I.lt ∅),aF I.sz ∅,λx c e z=>?_,λp hp z=>?_⟩ ⟨m,hm⟩ q
  ·obtain ⟨v,y⟩:=I.cell x c e
   have h1:H2.objs.size<s.heap.objs.size:=z ▸ y.lt
   exact absurd h1 ∅
  ·have h1:H2.objs.size<s.heap.objs.size:=z ▸ aw (I.pin p hp).1
   exact absurd h1 ∅
 have loop:∀s₃:Shared,s₃={ s with heap:=h₁,toks:=s.toks+([]:List (Str×ah)).length } ->
   cX (aD X.prog X.w) X.A (.compLoop (xq elt tg iter tg2 iter2 ifs ifs2 scope pos) 0 (.ref it) (.ref s.heap.objs.size) (oC scope cl H2.objs.size X.env)) (RR (.ref s.heap.objs.size) H2.objs.size) s₃:=by
  rintro s₃ rfl
  refine ZK (λn s'=>∃i σ' H',Inv (X.block scope cl H2.objs.size N s H fp) [] σ' H' s'/\tn i s'.heap/\(∀b∈fp,H' b=none)/\W i n σ' H') (hs2 _) ?_ m0
   ⟨0,_,_,I1,st1,λb hb=>by rw [ja (aB (hfs b hb))];exact (hf b hb).1,w0⟩
  rintro n s3 ⟨i,σ3,H3,I3,st3,fr3,w3⟩
  rcases turn i n σ3 H3 w3 with ⟨stop,qn⟩ | ⟨go,NX,hNX,step⟩
  ·refine thn (T.done (X.block scope cl H2.objs.size N s H fp) rfl rfl rfl hc i [] s3 σ3 H3 _ I3 (fpB fr3) st3 stop) λr s4 ⟨hr,I4⟩=>?_
   subst hr
   exact back I4 qn
  ·refine thn (T.item (X.block scope cl H2.objs.size N s H fp) rfl rfl rfl hc i [] s3 σ3 H3 _ I3 (fpB fr3) st3 go) λr s4 ⟨u,hr,h4⟩=>?_
   subst hr
   refine thn h4 λ_ s5 ⟨x,H5,I5,r5,y5,st5,fr5⟩=>?_
   have I5':=I5.pinned (fpB fr5) (T.obj _ _ st5)
   refine thn (hg cl H2.objs.size s H fp _ s5 σ3 H5 x u _ I5' r5 (step x H5 y5)) λ_ s6 ⟨σ6,H6,I6,q6⟩=>?_
   refine thn (hif cl H2.objs.size s H fp _ s6 σ6 H6 _ I6 q6) λok s7 ⟨H7,I7,q7⟩=>?_
   have again:∀{s8:Shared} {σ8:St} {H8:Hp},Inv (X.block scope cl H2.objs.size N s H fp) ([]++zc fp s5.heap) σ8 H8 s8->NX σ8 H8->∃m,m<n/\∃i σ' H',Inv (X.block scope cl H2.objs.size N s H fp) [] σ' H' s8/\tn i s8.heap/\(∀b∈fp,H' b=none)/\W i m σ' H':=λ{s8 σ8 H8} I8 n8=>by
    obtain ⟨m',hm,w8⟩:=hNX σ8 H8 n8
    refine ⟨m',hm,i+1,σ8,H8,I8.unpinned,T.keep _ _ _ st5 λb hb o e=>(I8.pin (b,o) (aE _ (aE _ (qB hb e)))).1,λb hb=>?_,w8⟩
    obtain ⟨o,e,d⟩:=T.obj _ _ st5 b hb
    exact (I8.pin (b,o) (aE _ (aE _ (qB hb e)))).2.1
   cases ok with
   | false =>
    rw [if_neg ar] at q7 ⊢
    exact again I7 q7
   | true =>
    rw [if_pos rfl] at q7 ⊢
    refine thn (hi2 cl H2.objs.size s H fp _ s7 σ6 H7 _ I7 q7) λv s8 h8=>thn h8 λitv s9 h9=>?_
    obtain ⟨it2,fp2,tn2,J2,H9,e,I9,T2,st9,f9,W2,⟨m2,w2⟩,turn2⟩:=h9
    subst e
    have stat2:∀{H':Hp},(∀b∈fp2,H' b=none)->∀b∈fp2,yj (X.block scope cl H2.objs.size N s H fp) ([]++zc fp s5.heap) H' b:=λhn b hb=>⟨hn b hb,(f9 b hb).2⟩
    have inner:cX (aD X.prog X.w) X.A (.compLoop (xq elt tg iter tg2 iter2 ifs ifs2 scope pos) 1 (.ref it2) (.ref s.heap.objs.size) (oC scope cl H2.objs.size X.env)) (λr s'=>match r with | .ok _=>∃m,m<n/\∃i σ' H',Inv (X.block scope cl H2.objs.size N s H fp) [] σ' H' s'/\tn i s'.heap/\(∀b∈fp,H' b=none)/\W i m σ' H' | .error _=>False) s9:=by
     refine V0 (λn2 s'=>∃j σ' H',Inv (X.block scope cl H2.objs.size N s H fp) ([]++zc fp s5.heap) σ' H' s'/\tn2 j s'.heap/\(∀b∈fp2,H' b=none)/\W2 j n2 σ' H') ?_ m2 ⟨0,_,_,I9,st9,λb hb=>(f9 b hb).1,w2⟩
     rintro n2 s10 ⟨j,σ10,H10,I10,st10,fr10,w10⟩
     rcases turn2 j n2 σ10 H10 w10 with ⟨stop2,nx2⟩ | ⟨go2,NX2,hNX2,step2⟩
     ·refine thn (T2.done (X.block scope cl H2.objs.size N s H fp) rfl rfl rfl hc j _ s10 σ10 H10 _ I10 (stat2 fr10) st10 stop2) λr s11 ⟨hr,I11⟩=>?_
      subst hr
      exact again I11 nx2
     ·refine thn (T2.item (X.block scope cl H2.objs.size N s H fp) rfl rfl rfl hc j _ s10 σ10 H10 _ I10 (stat2 fr10) st10 go2) λr s11 ⟨u2,hr,h11⟩=>?_
      subst hr
      refine thn h11 λ_ s12 ⟨x2,H12,I12,r12,y12,st12,fr12⟩=>?_
      have I12':=I12.pinned (stat2 fr12) (T2.obj _ _ st12)
      refine thn (hg2 cl H2.objs.size s H fp _ s12 σ10 H12 x2 u2 _ I12' r12 (step2 x2 H12 y12)) λ_ s13 ⟨σ13,H13,I13,q13⟩=>?_
      refine thn (hif2 cl H2.objs.size s H fp _ s13 σ13 H13 _ I13 q13) λok2 s14 ⟨H14,I14,q14⟩=>?_
      have again2:∀{s15:Shared} {σ15:St} {H15:Hp},Inv (X.block scope cl H2.objs.size N s H fp) (([]++zc fp s5.heap)++zc fp2 s12.heap) σ15 H15 s15->NX2 σ15 H15->∃m,m<n2/\∃j σ' H',Inv (X.block scope cl H2.objs.size N s H fp) ([]++zc fp s5.heap) σ' H' s15/\tn2 j s15.heap/\(∀b∈fp2,H' b=none)/\W2 j m σ' H':=λ{s15 σ15 H15} I15 n15=>by
       obtain ⟨m',hm,w15⟩:=hNX2 σ15 H15 n15
       refine ⟨m',hm,j+1,σ15,H15,I15.unpinned,T2.keep _ _ _ st12 λb hb o e=>(I15.pin (b,o) (aE _ (aE _ (qB hb e)))).1,λb hb=>?_,w15⟩
       obtain ⟨o,e,d⟩:=T2.obj _ _ st12 b hb
       exact (I15.pin (b,o) (aE _ (aE _ (qB hb e)))).2.1
      cases ok2 with
      | false =>
       rw [if_neg ar] at q14 ⊢
       exact again2 I14 q14
      | true =>
       rw [if_pos rfl] at q14 ⊢
       refine thn (he cl H2.objs.size s H fp _ s14 σ13 H14 _ I14 q14) λv15 s15 ⟨y15,H15,I15,r15,ys,e15,z15,q15⟩=>?_
       refine thn (qM _ s15 σ13 H15 (.ref s.heap.objs.size) [y15] _ [v15] (λ_ H16=>NX2 σ13 H16) I15 rfl (.cons r15 .nil) ⟨_,ys,y15,rfl,rfl,e15,z15,q15⟩) λ_ s16 ⟨_,H16,I16,_,q16⟩=>?_
       exact again2 I16 q16
    exact Yl inner (T2.self _ 0 _ _ _ st9 inner)
 exact fM (loop _ rfl) (T.self _ 0 _ _ _ st1 (loop _ rfl))
theorem Vl {osc:Scope}{ON N:List Str}{scope:Scope}{own:Nat}{caps:List Nat}{tg elt iter tg2 iter2:Expr}{ifs ifs2:List Expr}{wi wi2:TI}{g g2:TG}{ti ti2:TT}{te:TE}(S:CompSc osc ON scope own N caps)
  (hc:X.calm=true) (hsc:X.env.scope=osc) (hN:X.N=ON) (hi:PI X tg iter wi)
  (hg:∀cl C s H ex,PG (X.block scope cl C N s H ex) tg g) (hif:∀cl C s H ex,wR (X.block scope cl C N s H ex) ifs ti) (hi2:∀cl C s H ex,PI (X.block scope cl C N s H ex) tg2 iter2 wi2) (hg2:∀cl C s H ex,PG (X.block scope cl C N s H ex) tg2 g2) (hif2:∀cl C s H ex,wR (X.block scope cl C N s H ex) ifs2 ti2) (he:∀cl C s H ex,PE (X.block scope cl C N s H ex) elt te)
  (hs:∀x,cn iter X.env x=pure x:=by intro _;rfl) (hs2:∀env x,cn iter2 env x=pure x:=by intro _ _;rfl):PE X (.ListComp elt [⟨tg,iter,ifs,0⟩,⟨tg2,iter2,ifs2,0⟩] scope pos) (Wo own caps wi g ti wi2 g2 ti2 te):=by
 intro pins s σ H Q I h
 obtain ⟨cl,hclos,hcl⟩:=yd (Jd S hsc I)
 rw [nu]
 refine dM (use:=none) rfl hs hclos S.kind S.loc (thn (hi pins s σ H _ I h) λv s1 h1=>thn h1 λitv s2 h2=>?_)
 obtain ⟨it,fp,tn,J,H2,e,I2,T,st2,f2,hw⟩:=h2
 subst e
 refine Y3 (RR:=λacc C=>rH (aD X.prog X.w) X.A X.xe none (EP X pins σ Q) acc C) hc S hsc hN hcl hg hif hi2 hg2 hif2 he hs2 I2 T st2 f2 hw λD C H' s' J1 B ⟨m,hm⟩ q=>?_
 exact ⟨m,hm,λh' hs'=>⟨.ref D,H',B.gone J1 hs',rfl,q⟩⟩
end
end L2
end
section
namespace L2
open PySem.W
structure CalM (P:Program) (w:aU) (K:ai) (mg:Str->Option ah) (base:Heap) (k:Nat) (C:Addr) (m:Str) (ps:List Str) (sp:Sp):Prop where
 ex:∃f fd,FnOk P w K mg base CX0 k f fd ps sp/\y9 K fd ps []/\Meth K C m f
structure CalMX (P:Program) (w:aU) (K:ai) (mg:Str->Option ah) (base:Heap) (k:Nat) (C:Addr) (m:Str) (ps:List Str) (sp:Sp):Prop where
 ex:∃f fd,FnOk P w K mg base (CX1 P w) k f fd ps sp/\y9 K fd ps []/\Meth K C m f
section
variable {X:Cx}{k:Nat}{f C:Addr}{fd:FuncData}{ps:List Str}{sp:Sp}{x m:Str}{p pos apos:Pos}{e o:Expr}{es:List Expr}{ta:TE}{t:TA}{J:ah->St->Hp->Prop}
theorem WZ {pins:List (Addr×Obj)}{σ:St}{H:Hp}{s:Shared}{Q:VK}{us:List ah}{vs:List V}(F:FnOk X.prog X.w X.K X.mg X.base (CX1 X.prog X.w) k f fd ps sp) (hr:Room k X.A) (hb:y9 X.K fd ps []) (ac:Acc X J)
  (I:Inv X pins σ H s) (r:jI vs us) (h:sp vs H Q λcls _ H'=>J cls σ H'):ay (aD X.prog X.w) X.A (call (.ref f) us) (EP X pins σ Q) X.xe s:=by
 have hl:us.length=ps.length:=by rw [<- r.length];exact F.len _ _ _ _ h
 have hb':=hb s us I.kIn (by rw [aP];exact hl)
 rw [aP] at hb'
 refine fm (de (F.run X.A X.stack s H ⟨us,[]⟩ us vs Q _ hr I.env0 hb' r h) λr s' hq=>?_)
 cases r with
 | error e =>
  obtain ⟨a,cls,H',rfl,os,b,u,ok,fy,j⟩:=hq
  exact ac pins σ H' s' a cls ⟨s,H,I,os,b,u,ok,fy⟩ j
 | ok fl =>
  cases fl with
  | ret u=>exact I.after hq
  | next=>exact bp hq
  | brk=>exact bp hq
  | cont=>exact bp hq
theorem pe_m {pl:Sem Bool}(he:PE X o ta) (c:Cls X.K C) (cm:CalM X.prog X.w X.K X.mg X.base k C m ps sp) (hr:Room k X.A) (ha:PA X (e::es) t)
  (hst:aN (e::es) X.env=(false,eval e X.env)::aN es X.env:=by rfl) (hpl:(cT pos (aN es X.env)).any (·.1)=false:=by rfl)
  (ht:eval (.Call (.Attribute o m apos) (e::es) [] pos) X.env=(do let ov <- eval o X.env;fZ apos.atName;let (f,first) <- i0 [ov] (mP ov m pl);sJ pos f first (cT pos (aN (e::es) X.env)) (mr pos (i7 [] X.env))):=by rfl) :
  PE X (.Call (.Attribute o m apos) (e::es) [] pos) (UD C m sp [] E0 ta t):=by
 obtain ⟨f,fd,F,hb,hm⟩:=cm.ex
 exact VH he c hm F hr hb .nil UB ha hst hpl ht
noncomputable def Ws (C:Addr) (m:Str) (sp:Sp) (J:ah->St->Hp->Prop) (ta:TE) (t:TA):TE:=λσ H Q=>ta σ H λx H1=>∃a dx fs,x = .ref a/\H1 a=some (.ins C dx fs)/\fs.lookup m=none/\t σ H1 λvs H2=>sp (x::vs) H2 Q λcls _ H'=>J cls σ H'
theorem yG {pl:Sem Bool}(he:PE X o ta) (c:Cls X.K C) (cm:CalMX X.prog X.w X.K X.mg X.base k C m ps sp) (hr:Room k X.A) (ac:Acc X J) (ha:PA X (e::es) t)
  (hst:aN (e::es) X.env=(false,eval e X.env)::aN es X.env:=by rfl) (hpl:(cT pos (aN es X.env)).any (·.1)=false:=by rfl)
  (ht:eval (.Call (.Attribute o m apos) (e::es) [] pos) X.env=(do let ov <- eval o X.env;fZ apos.atName;let (f,first) <- i0 [ov] (mP ov m pl);sJ pos f first (cT pos (aN (e::es) X.env)) (mr pos (i7 [] X.env))):=by rfl) :
  PE X (.Call (.Attribute o m apos) (e::es) [] pos) (Ws C m sp J ta t):=by
 obtain ⟨f,fd,F,hb,hm⟩:=cm.ex
 intro pins s σ H Q I h
 refine mh (pl:=pl) (thn (he pins s σ H _ I h) λu s1 ⟨x,H1,I1,rx,a,dx,fs,ex,ea,l,q⟩=>?_) ht
 subst ex
 obtain rfl:u=b7 a:=rx
 refine kh I1 ea c hm l ?_
 refine dj (first:=[.ref a]) (h₀:=X.base) I.ok.mod.kin hm.kp (thn (ha pos pins s1 σ H1 _ I1 q) λus s2 ⟨vs,H2,I2,r,q2⟩=>⟨I2.kIn,?_⟩) hst hpl
 exact WZ (us:=.ref a::us) (vs:=.ref a::vs) F hr hb ac I2 (.cons rfl r) q2
structure MakX (P:Program) (w:aU) (K:ai) (mg:Str->Option ah) (base:Heap) (k:Nat) (C:Addr) (x:Str) (ps:List Str) (sp:Sp):Prop where
 ex:∃f fd,FnOk P w K mg base (CX1 P w) k f fd ps sp/\y9 K fd ps []/\Mk K C f/\mg x=some (.ref C)
noncomputable def W1 (C:Addr) (sp:Sp) (J:ah->St->Hp->Prop) (t:TA):TE:=λσ H Q=>t σ H λvs H1=>∀x dx,H1 x=none->H1 dx=none->dx≠x ->
 sp (.ref x::vs) (upd (upd H1 dx (.own x)) x (.ins C dx [])) (λv H2=>v = .non/\Q (.ref x) H2) λcls _ H'=>J cls σ H'
theorem U7 (c:MakX X.prog X.w X.K X.mg X.base k C x ps sp) (hr:Room (k+1) X.A) (ac:Acc X J) (hg:Gl X x) (ha:PA X (e::es) t) (hdb:(x == ("__debug__" : Str))=false:=by decide) (he:aN (e::es) X.env=(false,eval e X.env)::aN es X.env:=by rfl) (hpl:(cT pos (aN es X.env)).any (·.1)=false:=by rfl) :
  PE X (.Call (.Name x p) (e::es) [] pos) (W1 C sp J t):=by
 obtain ⟨f,fd,F,hb,M,hm⟩:=c.ex
 intro pins s0 σ H0 Q I0 h0
 refine cU (ym I0 hg hm ?_ hdb)
 refine dj (h₀:=X.base) I0.ok.mod.kin M.kp (thn (ha pos pins s0 σ H0 _ I0 h0) λus s ⟨vs,H,I,r,h⟩=>⟨I.kIn,?_⟩) he hpl
 have hq:=h (s.heap.objs.size+1) s.heap.objs.size (I.hok.fresh (dH _)) (I.hok.fresh (av _)) (aB (fV _))
 have I2:=Inv.made (C:=C) I
 have r2:jI (V.ref (s.heap.objs.size+1)::vs) (b7 (s.heap.objs.size+1)::us):=.cons rfl r
 have hl:(b7 (s.heap.objs.size+1)::us).length=ps.length:=by rw [<- r2.length];exact F.len _ _ _ _ hq
 have hb':=hb { s with heap:=_ } (b7 (s.heap.objs.size+1)::us) I2.kIn (by rw [aP];exact hl)
 rw [aP] at hb'
 refine fm (Vv (f:=f) I.kIn M.makes M.init (beq_iff_eq.mp M.fn) (de (F.run _ X.stack _ _ ⟨b7 (s.heap.objs.size+1)::us,[]⟩ (b7 (s.heap.objs.size+1)::us) _ _ _ (hr.make C us []) (I2.env0.make C us []) hb' r2 hq) λr s' hq'=>?_))
 cases r with
 | error e =>
  obtain ⟨a,cls,H',rfl,os,b,u,ok,fy,j⟩:=hq'
  exact ac pins σ H' s' a cls ⟨_,_,I2,os,b,u,ok,fy⟩ j
 | ok fl =>
  cases fl with
  | ret u =>
   obtain ⟨v,H',I3,rv,ev,q3⟩:=I2.after hq'
   subst ev
   exact ⟨rv,⟨V.ref (s.heap.objs.size+1),H',I3,rfl,q3⟩⟩
  | next=>exact bp hq'
  | brk=>exact bp hq'
  | cont=>exact bp hq'
theorem xL {f:Str}(K:ai) (he:PE X e ta) (hb:f7 e f X.env (eval e X.env)=eval e X.env:=by rfl) (hK:X.K=K:=by rfl):PE X (.Attribute e f pos) (Gv K ta f):=by subst hK;exact Wy he hb
theorem yY {f:Str}{value:Expr}{pos':Pos}{tv:TE}(K:ai) (ha:PE X o ta) (hv:PE X value tv) (hs:iE value (some (.Attribute o f pos')) pos.line X.env=pure false:=by rfl) (hK:X.K=K:=by rfl):PS X (.Assign [.Attribute o f pos'] value pos) (G4 K ta tv f):=by subst hK;exact Wg ha hv hs
end
theorem UF {K:ai}{a acc:Addr}{xs:List V}{g2:TG}{ti2:TT}{te:TE}{NX:St->Hp->Prop}{σ:St}{H:Hp}(Pv:Nat->St->Hp->Prop) (h0:Pv 0 σ H) (hl:∀i σ H,i<=xs.length->Pv i σ H->SqT K H a xs)
  (hs:∀i x σ H,xs[i]? = some x->Pv i σ H->g2 x σ H λσ3 H3=>ti2 σ3 H3 λok H4=>if ok=true then te σ3 H4 λv H5=>∃ys,H5 acc=some (.lst ys)/\ys.length<sizeLine/\Pv (i+1) σ3 (upd H5 acc (.lst (ys++[v]))) else Pv (i+1) σ3 H4)
  (hd:∀σ H,Pv xs.length σ H->NX σ H):ku acc g2 ti2 te (Itt K a) NX σ H:=by
 refine ⟨λi m σ H=>m=xs.length-i/\i<=xs.length/\Pv i σ H,⟨xs.length,by simp,aO _,h0⟩,λi m σ H z=>?_⟩
 obtain ⟨rfl,hi,p⟩:=z
 have q:=hl i σ H hi p
 by_cases hlt:i<xs.length
 ·refine .inr ⟨⟨xs,xs[i],q,by simp [hlt]⟩,Pv (i+1),λσ' H' p'=>⟨xs.length-(i+1),∅,rfl,hlt,p'⟩,λx H' y=>?_⟩
  obtain ⟨e,y⟩:=y
  subst e
  exact hs i x σ _ (y xs q) p
 ·obtain rfl:i=xs.length:=∅
  exact .inl ⟨⟨xs,q,av _⟩,hd σ H p⟩
theorem Yh {K:ai}{a acc:Addr}{xs:List V}{g g2:TG}{ti ti2:TT}{wi2:TI}{te:TE}{R:Hp->Prop}{σ:St}{H:Hp}(Pv:Nat->St->Hp->Prop) (h0:Pv 0 σ H) (hl:∀i σ H,i<=xs.length->Pv i σ H->SqT K H a xs)
  (hs:∀i x σ H,xs[i]? = some x->Pv i σ H->g x σ H λσ3 H3=>ti σ3 H3 λok H4=>if ok=true then wi2 σ3 H4 λJ2 H5=>ku acc g2 ti2 te J2 (Pv (i+1)) σ3 H5 else Pv (i+1) σ3 H4)
  (hd:∀σ H,Pv xs.length σ H->R H) :
  ∃W:Nat->Nat->St->Hp->Prop,(∃m,W 0 m σ H)/\∀i m σ' H',W i m σ' H' ->
   ((Itt K a).stop i H'/\R H')\/((Itt K a).go i H'/\∃NX:St->Hp->Prop,(∀σ2 H2,NX σ2 H2->∃m',m'<m/\W (i+1) m' σ2 H2) /\
    ∀x H2,(Itt K a).yld i H' x H2->g x σ' H2 λσ3 H3=>ti σ3 H3 λok H4=>if ok=true then wi2 σ3 H4 λJ2 H5=>ku acc g2 ti2 te J2 NX σ3 H5 else NX σ3 H4):=by
 refine ⟨λi m σ H=>m=xs.length-i/\i<=xs.length/\Pv i σ H,⟨xs.length,by simp,aO _,h0⟩,λi m σ H z=>?_⟩
 obtain ⟨rfl,hi,p⟩:=z
 have q:=hl i σ H hi p
 by_cases hlt:i<xs.length
 ·refine .inr ⟨⟨xs,xs[i],q,by simp [hlt]⟩,Pv (i+1),λσ' H' p'=>⟨xs.length-(i+1),∅,rfl,hlt,p'⟩,λx H' y=>?_⟩
  obtain ⟨e,y⟩:=y
  subst e
  exact hs i x σ _ (y xs q) p
 ·obtain rfl:i=xs.length:=∅
  exact .inl ⟨⟨xs,q,av _⟩,hd σ H p⟩
theorem Xg {X:Cx}:Acc X λ_ _ _=>False:=λ_ _ _ _ _ _ _ z=>z.elim
end L2
end
section
namespace L2
open PySem.W
inductive gN (K:ai) (n:Str) (s:Stmt):Prop
 | mk {f:Addr} {oc kV dc pm cd ct:ah} {od an:Option Addr} {sl:Array (Option ah)} (a:nsIn K mainGlobals n=some (some (.ref f))) (l:K.lookup f=some ⟨oc,od,.func (fnOf n n (jY s) (jO s) (j9 s) .none kV dc pm an cd ct),sl⟩) (c:codeIn K cd n=true) (k:keepIn K (.ref f)=true)
inductive gM (K:ai) (C:Addr) (m q:Str) (s:Stmt):Prop
 | mk {f:Addr} {oc kV dc pm cd ct:ah} {od an:Option Addr} {sl:Array (Option ah)} (a:findIn K (.ref C) m=some (some (.ref f))) (i:isFn K (.ref f)=true) (l:K.lookup f=some ⟨oc,od,.func (fnOf m q (jY s) (jO s) (j9 s) .none kV dc pm an cd ct),sl⟩) (c:codeIn K cd q=true) (k:keepIn K (.ref f)=true)
structure gE (K:ai) (n:Str) (C:Addr):Prop where
 e:nsIn K mainGlobals n=some (some (.ref C))
 x:excIn K C [.type "ValueError",.type "Exception",.type "BaseException",.type "object"] "ValueError.__new__" = true
 m:exmOne K (.ref C) (.ref C)=some true
noncomputable abbrev gB (x q:Str) (st:Stmt) (ps:List Str):Prop:=∀(kV doc pm:ah) (an:Option Addr) (cdv ct:ah) (us:List ah),us.length=ps.length->cC (fnOf x q (jY st) (jO st) (j9 st) .none kV doc pm an cdv ct) ⟨us,[]⟩=pure (ps.zip us)
inductive Zt (P:Program) (w:aU) (K:ai) (mg:Str->Option ah) (base:Heap):Prop
 | mk {h:Heap} (X:K.In h) (G:h.Ns mainGlobals mg)
section
variable {P:Program}{w:aU}{K:ai}{mg:Str->Option ah}{base:Heap}{k:Nat}{x q:Str}{ps:List Str}{sp:Sp}{st:Stmt}{C:Addr}
theorem gN.cal (a:gN K x st) (z:Zt P w K mg base) (hb:gB x x st ps)
  (ok:∀{f:Addr} {fd:FuncData},Fun K x x st f fd->FnOk P w K mg base CX0 k f fd ps sp):Cal P w K mg base k x ps sp:=by
 obtain ⟨a,l,c,k'⟩:=a
 obtain ⟨X,G⟩:=z
 exact Cal.mk' X G a l c k' hb ok
theorem gN.calX (a:gN K x st) (z:Zt P w K mg base) (hb:gB x x st ps)
  (ok:∀{f:Addr} {fd:FuncData},Fun K x x st f fd->FnOk P w K mg base (CX1 P w) k f fd ps sp):CalX P w K mg base k x ps sp:=by
 obtain ⟨a,l,c,k'⟩:=a
 obtain ⟨X,G⟩:=z
 exact CalX.mk' X G a l c k' hb ok
theorem gM.calX (a:gM K C x q st) (z:Zt P w K mg base) (hb:gB x q st ps)
  (ok:∀{f:Addr} {fd:FuncData},Fun K x q st f fd->FnOk P w K mg base (CX1 P w) k f fd ps sp):CalMX P w K mg base k C x ps sp:=by
 obtain ⟨a,i,l,c,k'⟩:=a
 have F:=vQ (st:=st) l c k'
 exact ⟨_,_,ok F,F.binds hb,⟨a,i,k'⟩⟩
theorem gM.mak {y:Str}(a:gM K C "__init__" q st) (z:Zt P w K mg base) (m:makesIn K C=true) (kc:keepIn K (.ref C)=true) (n:nsIn K mainGlobals y=some (some (.ref C))) (hb:gB "__init__" q st ps)
  (ok:∀{f:Addr} {fd:FuncData},Fun K "__init__" q st f fd->FnOk P w K mg base (CX1 P w) k f fd ps sp):MakX P w K mg base k C y ps sp:=by
 obtain ⟨a,i,l,c,k'⟩:=a
 obtain ⟨X,G⟩:=z
 have F:=vQ (st:=st) l c k'
 exact ⟨_,_,ok F,F.binds hb,⟨m,a,i,kc⟩,mg_of X G n⟩
end
theorem bnd1 {fd:FuncData}{ps:List Str}{us:List ah}(hl:us.length=1) (h:∀a,cC fd ⟨[a],[]⟩=pure (ps.zip [a])):cC fd ⟨us,[]⟩=pure (ps.zip us):=match us,hl with | [a],_=>h a
theorem bnd2 {fd:FuncData}{ps:List Str}{us:List ah}(hl:us.length=2) (h:∀a b,cC fd ⟨[a,b],[]⟩=pure (ps.zip [a,b])):cC fd ⟨us,[]⟩=pure (ps.zip us):=match us,hl with | [a,b],_=>h a b
theorem bnd3 {fd:FuncData}{ps:List Str}{us:List ah}(hl:us.length=3) (h:∀a b c,cC fd ⟨[a,b,c],[]⟩=pure (ps.zip [a,b,c])):cC fd ⟨us,[]⟩=pure (ps.zip us):=match us,hl with | [a,b,c],_=>h a b c
theorem bnd4 {fd:FuncData}{ps:List Str}{us:List ah}(hl:us.length=4) (h:∀a b c d,cC fd ⟨[a,b,c,d],[]⟩=pure (ps.zip [a,b,c,d])):cC fd ⟨us,[]⟩=pure (ps.zip us):=match us,hl with | [a,b,c,d],_=>h a b c d
theorem bnd5 {fd:FuncData}{ps:List Str}{us:List ah}(hl:us.length=5) (h:∀a b c d e,cC fd ⟨[a,b,c,d,e],[]⟩=pure (ps.zip [a,b,c,d,e])):cC fd ⟨us,[]⟩=pure (ps.zip us):=match us,hl with | [a,b,c,d,e],_=>h a b c d e
theorem bnd6 {fd:FuncData}{ps:List Str}{us:List ah}(hl:us.length=6) (h:∀a b c d e f,cC fd ⟨[a,b,c,d,e,f],[]⟩=pure (ps.zip [a,b,c,d,e,f])):cC fd ⟨us,[]⟩=pure (ps.zip us):=match us,hl with | [a,b,c,d,e,f],_=>h a b c d e f
end L2
end
section
namespace L2
open PySem.W
theorem kX:entryFor table "proto.unchain" = some dS.«proto.unchain»:=entryFor_of_fast (by kernel_rfl)
noncomputable def Jl (A:b9) (h:Heap):Prop:=∃e oe ws,A.handled=some (.ref e)/\h.get? e=some oe/\oe.data = .fields ws/\ws[2]? = some .none
theorem Jl.keep {A:b9}{h h':Heap}(x:Jl A h) (k:∀b o ws,h.get? b=some o->o.data = .fields ws->ws[2]? = some .none->∃o' ws',h'.get? b=some o'/\o'.data = .fields ws'/\ws'[2]? = some .none):Jl A h':=by
 obtain ⟨e,oe,ws,a,b,c,d⟩:=x
 obtain ⟨o',ws',b',c',d'⟩:=k e oe ws b c d
 exact ⟨e,o',ws',a,b',c',d'⟩
section
variable {prog:Program}{w:aU}{A:b9}{E:ah->Shared->Prop}{s:Shared}
theorem Z6 {α:Type}{e:Addr}{oe:Obj}{vs:Array ah}{Q:α->Shared->Prop}(hh:Jl A s.heap) (ge:s.heap.get? e=some oe) (gd:oe.data = .fields vs) (z2:2<vs.size) (new:∀x,A.handled=some (.ref x)->x≠e)
  (k:∀x,E (.ref e) { s with heap:=s.heap.update e (eF (·.setIfInBounds 2 x)) }):ay (aD prog w) A (raiseNew (.ref e):Sem α) Q E s:=by
 obtain ⟨x,ox,ws,hA,gx,gw,g2⟩:=hh
 have ne:=new x hA
 unfold raiseNew
 refine aa (sj ?_)
 rw [hA]
 dsimp only
 rw [if_pos (by simpa using ne)]
 refine aa (bC (wpAny_runValue (lZ kX ?_)))
 show ay _ _ (md (.ref x) 2 >>= _) _ _ s
 refine aa (bw gx gw g2 ?_)
 rw [if_pos (by rfl)]
 refine wpAny_pure ?_
 show ay _ _ (updateField e 2 (.ref x) >>= _) _ _ s
 unfold updateField
 refine aa (aa (wpAny_load ge ?_))
 rw [gd]
 dsimp only
 rw [if_pos z2]
 exact wpAny_update ge (wpAny_throw (k _))
theorem gk {α:Type}{it:Addr}{oi:Obj}{u0 u1 y:ah}{Q:Option ah->Shared->Prop}(hh:Jl A s.heap) (gi:s.heap.get? it=some oi) (gd:oi.data = .fields #[u0,u1]) (k:∀g,ib it s.heap g->Q none { s with heap:=g }) :
  ay (aD prog w) A (setField (.ref it) 0 y >>= λ_=>sV (.type "StopIteration") [] >>= λe=>(raiseNew e:Sem α)) (λ_ _=>False) (λe s1=>∃a,e = .ref a/\s1.TypeIs (.ref a) "StopIteration" /\ Q none s1) s:=by
 refine aa (eQ gi gd (by simp) (aa ?_))
 simp only [sV,newTuple]
 refine aa (bx ?_ (by size_fits))
 refine aa (m:=iN _ _) (mF (a:=aS) (by first | rfl | (simp only [iN];rfl)) ?_)
 refine bx ?_ (by size_fits)
 generalize hg:(s.heap.update it (eF (·.setIfInBounds 0 y))).push _=g1
 have kp:∀{b o},b≠it->s.heap.get? b=some o->g1.get? b=some o:=λ{b o} n q=>by
  rw [<- hg]
  refine ak _ ?_
  rw [bS _ _ n.symm]
  exact q
 have notIt:∀{b o ws},s.heap.get? b=some o->o.data = .fields ws->ws[2]? = some .none->b≠it:=λ{b o ws} q d d2 z=>by
  rw [z,gi] at q
  cases q
  rw [gd] at d
  cases d
  cases d2
 refine Z6 (oe:=_) ?_ (aA _ rfl) rfl (by first | (simp;done) | (simp;omega)) (λx hx=>?_) λx=>?_
 ·exact hh.keep λb o ws q d d2=>⟨o,ws,ak _ (kp (notIt q d d2) q),d,d2⟩
 ·obtain ⟨e,oe,ws,hA,ge,gw,g2⟩:=hh
  rw [hA] at hx
  cases hx
  exact aB (aw (kp (notIt ge gw g2) ge))
 ·refine ⟨_,rfl,⟨_,dz _ (aA _ rfl) rfl,rfl⟩,k _ λb o n q=>?_⟩
  rw [bS _ _ (cG (aw (kp n q)))]
  exact ak _ (kp n q)
theorem QY {it l:Addr}{i:Nat}{items:Array ah}{Q:Option ah->Shared->Prop}(hh:Jl A s.heap) (hit:s.heap.IsListIter it l i) (hl:s.heap.IsList l items) (hx:items[i]? = none)
  (k:∀g,ib it s.heap g->Q none { s with heap:=g }):ay (aD prog w) A (eY (.ref it)) Q E s:=by
 obtain ⟨oi,gi,gc,gd⟩:=id hit
 obtain ⟨ol,gl,_,nl,dl⟩:=hl
 unfold eY
 refine aa (eC ?_)
 refine bP (name:=aj "__next__") hit.typeIs nZ ?_
 refine cf nZ hit.typeIs entry_listiter_next ?_ (args_listiter_next _)
 show ay _ A.in1 (md (.ref it) 0 >>= _) _ _ s
 refine aa (bw gi gd (x:=.ref l) rfl ?_)
 show ay _ A.in1 (if (b7 l == aS)=true then _ else _) _ _ s
 rw [if_neg (by exact ar)]
 show ay _ A.in1 (md (.ref it) 1 >>= _) _ _ s
 refine aa (bw gi gd (x:=.int i 0) rfl ?_)
 show ay _ A.in1 (pe (.ref l) >>= _) _ _ s
 refine aa (cM gl dl ?_)
 simp only [bL,hx]
 refine aa (fq ?_)
 refine aW (gk (A:=A.in1) (Q:=Q) hh gi gd k) (λ_ _ z=>z.elim) λe s1 ⟨a,ea,ht,q⟩=>?_
 subst ea
 exact aa (lF (T:="StopIteration") (b:=true) ht mH (wpAny_pure q))
theorem Y2 {it l:Addr}{i:Nat}{items:Array ah}{Q:Option ah->Shared->Prop}(hh:Jl A s.heap) (hit:IsTupIter s.heap it l i) (hl:rf s.heap l items) (hx:items[i]? = none)
  (k:∀g,ib it s.heap g->Q none { s with heap:=g }):ay (aD prog w) A (eY (.ref it)) Q E s:=by
 obtain ⟨oi,gi,gc,gd⟩:=id hit
 obtain ⟨ol,gl,_,nl,dl⟩:=hl
 unfold eY
 refine aa (eC ?_)
 refine bP (name:=aj "__next__") hit.typeIs nh ?_
 refine cf nh hit.typeIs entry_tupleiter_next ?_ (args_tupleiter_next _)
 show ay _ A.in1 (md (.ref it) 0 >>= _) _ _ s
 refine aa (bw gi gd (x:=.ref l) rfl ?_)
 show ay _ A.in1 (if (b7 l == aS)=true then _ else _) _ _ s
 rw [if_neg (by exact ar)]
 show ay _ A.in1 (md (.ref it) 1 >>= _) _ _ s
 refine aa (bw gi gd (x:=.int i 0) rfl ?_)
 show ay _ A.in1 (pe (.ref l) >>= _) _ _ s
 refine aa (cM gl dl ?_)
 simp only [bL,hx]
 refine aa (fq ?_)
 refine aW (gk (A:=A.in1) (Q:=Q) hh gi gd k) (λ_ _ z=>z.elim) λe s1 ⟨a,ea,ht,q⟩=>?_
 subst ea
 exact aa (lF (T:="StopIteration") (b:=true) ht mH (wpAny_pure q))
theorem Yd {env:Env}{elts:List Expr}{x1}{pos:Pos}{t:Addr}{items:Array ah}{Q:Unit->Shared->Prop}(hh:Jl A s.heap) (ht:rf s.heap t items) (hn:(d6 elts env).length=items.size) (hstar:(d6 elts env).findIdx? (·.1)=none)
  (k:∀g,ib s.heap.objs.size s.heap g->ay (aD prog w) A (rW ((d6 elts env).map (·.2)) items.toList) Q E { s with heap:=g }):ay (aD prog w) A (fU (.Tuple elts x1 pos) env (.ref t)) Q E s:=by
 have lt:t≠s.heap.objs.size:=by
  obtain ⟨o,ho,_⟩:=ht
  exact aB (aw ho)
 rw [assign_Tuple]
 refine aa (cW ?_)
 unfold unpack
 rw [hn,hstar]
 refine aa (bC ?_)
 unfold unpackItems
 refine aa ?_
 unfold notIterableAtAll
 refine aa (pS ht.typeIs slot_tuple_iter.lookup (wpAny_pure ?_))
 simp only [c9,if_false]
 refine aa (bC (iter_tuple ht ?_))
 refine aa (bC (draw_tuple lt items.size 0 _ _ ⟨_,aA _ rfl,rfl,rfl⟩ (ht.push _) ∅ λg1 hi1 sb1=>?_))
 rw [show List.take items.size (List.drop 0 items.toList)=items.toList by rw [List.drop_zero];exact cg (by simp)]
 rw [if_neg (by simp)]
 have kp:∀{b o},b≠s.heap.objs.size->s.heap.get? b=some o->g1.get? b=some o:=λ{b o} n q=>sb1.extBut b o n (ak _ q)
 refine aa (bC (Y2 (hh.keep λb o ws q d d2=>⟨o,ws,kp (aB (aw q)) q,d,d2⟩) hi1 ((ht.push _).extBut sb1.extBut lt) (by simp) λg2 e2=>?_))
 simp only [Option.isSome_none,c9,if_false]
 exact wpAny_pure (k g2 λb o n q=>e2 b o n (kp n q))
end
structure Hu (X:Cx):Prop where
 ex:∃e oe ws,X.A.handled=some (.ref e)/\X.s₀.heap.get? e=some oe/\X.H₀ e=none/\e∉X.fs/\e∉X.ex/\oe.data = .fields ws/\ws[2]? = some .none
theorem Hu.now {X:Cx}{pins:List (Addr×Obj)}{σ:St}{H:Hp}{s:Shared}(h:Hu X) (I:Inv X pins σ H s):Jl X.A s.heap:=by
 obtain ⟨e,oe,ws,a,b,c,d,f,g,k⟩:=h.ex
 exact ⟨e,oe,ws,a,I.base.keep e oe b c d f,g,k⟩
theorem Hu.block {X:Cx}{pins:List (Addr×Obj)}{σ:St}{H:Hp}{s:Shared}{scope:Scope}{cl:List (Str×Addr)}{C:Addr}{N:List Str}{fp:List Addr}(h:Hu X) (I:Inv X pins σ H s) (hf:∀b∈fp,yj X pins H b):Hu (X.block scope cl C N s H fp):=by
 obtain ⟨e,oe,ws,a,b,c,d,f,g,k⟩:=h.ex
 have now:=I.base.keep e oe b c d f
 refine ⟨e,oe,ws,a,now,I.base.free e oe b c f,λz=>?_,λz=>?_,g,k⟩
 ·rcases List.mem_cons.mp (I.stkSub e z) with y | y
  ·obtain ⟨m,⟨o,es,ep,ho,hd,_⟩,_⟩:=I.loc
   rw [<- y,now] at ho
   cases ho
   rw [g] at hd
   cases hd
  ·exact d y
 ·rcases (hf e z).2.2.2.1 with y | y
  ·exact f y
  ·exact absurd (aw b) (Nat.not_lt.mpr y)
structure TurnH (P:Program) (w:aU) (K:ai) (tg:Expr) (J:It) (fp:List Addr) (it:Addr) (tn:Nat->Heap->Prop):Prop where
 mem:it∈fp
 obj:∀i h,tn i h->∀b∈fp,∃o,h.get? b=some o/\∀v,o.data≠.cell v
 keep:∀i h h',tn i h->(∀b∈fp,∀o,h.get? b=some o->h'.get? b=some o)->tn i h'
 item:∀(X:Cx),X.prog=P->X.w=w->X.K=K->Hu X->∀(i:Nat) (pins:List (Addr×Obj)) (s:Shared) (σ:St) (H:Hp) (E:ah->Shared->Prop),Inv X pins σ H s->(∀b∈fp,yj X pins H b)->tn i s.heap->J.go i H ->
  ay (aD P w) X.A (eY (.ref it)) (λr s1=>∃u,r=some u /\
   ay (aD P w) X.A (cQ tg (.ref it) u) (λ_ s2=>∃x H',Inv X pins σ H' s2/\jK x u/\J.yld i H x H'/\tn (i+1) s2.heap/\∀b∈fp,H' b=none) E s1) E s
 done:∀(X:Cx),X.prog=P->X.w=w->X.K=K->Hu X->∀(i:Nat) (pins:List (Addr×Obj)) (s:Shared) (σ:St) (H:Hp) (E:ah->Shared->Prop),Inv X pins σ H s->(∀b∈fp,yj X pins H b)->tn i s.heap->J.stop i H ->
  ay (aD P w) X.A (eY (.ref it)) (λr s1=>r=none/\Inv X pins σ H s1) E s
 self:∀(A:b9) (i:Nat) (s:Shared) (Q:ah->Shared->Prop) (E:ah->Shared->Prop),tn i s.heap->Q (.ref it) s->ay (aD P w) A (iZ (.ref it)) Q E s
noncomputable def PIEH (X:Cx) (pins:List (Addr×Obj)) (σ:St) (tg:Expr) (R:It->Hp->Prop) (itv:ah) (s2:Shared):Prop :=
 ∃(it:Addr) (fp:List Addr) (tn:Nat->Heap->Prop) (J:It) (H':Hp),itv = .ref it/\Inv X pins σ H' s2/\TurnH X.prog X.w X.K tg J fp it tn/\tn 0 s2.heap/\(∀b∈fp,yj X pins H' b)/\R J H'
noncomputable def PIH (X:Cx) (tg iter:Expr) (wi:TI):Prop :=
 ∀(pins:List (Addr×Obj)) (s:Shared) (σ:St) (H:Hp) (R:It->Hp->Prop),Inv X pins σ H s->wi σ H R ->
  ay (aD X.prog X.w) X.A (eval iter X.env) (λv s1=>ay (aD X.prog X.w) X.A (iZ v) (PIEH X pins σ tg R) X.xe s1) X.xe s
theorem Xs {P:Program}{w:aU}{K:ai}{tg:Expr}(a it:Addr):TurnH P w K tg (Itl K a) [it] it (λi h=>h.IsListIter it a i) where
 mem:=by simp
 obj:=λi h st b hb=>by
  have e:b=it:=by simpa using hb
  subst e
  obtain ⟨o,e,c,d⟩:=st
  exact ⟨o,e,λv z=>by rw [d] at z;cases z⟩
 keep:=λi h h' st k=>st.at λo e=>k it (by simp) o e
 item:=by
  intro X hP hw hK hc i pins s σ H E I hf st hg
  subst hP hw hK
  obtain ⟨xs,x,hq,hx⟩:=hg
  obtain ⟨its,rv,p,hz⟩:=I.list hq
  obtain ⟨u,hu,ru⟩:=rv.get hx
  obtain ⟨f0,f1,f2,f3,f4,f5⟩:=hf it (by simp)
  refine lL st p.isList (x:=u) (by simpa using hu) λh' st' sb=>?_
  have I1:Inv X pins σ H { s with heap:=h' }:=I.turned (t':=s.toks) (λb o hb e=>(sb.2 b hb).trans e) f0 f1 f3 f4 f5
  obtain ⟨o,e,c,d⟩:=id st'
  exact ⟨u,rfl,QW (s:={ s with heap:=h' }) e c d ⋯ ⟨x,H,I1,ru,⟨rfl,λys hy=>by rw [I.list_inj hy hq];exact hx⟩,st',λb hb=>(hf b hb).1⟩⟩
 done:=by
  intro X hP hw hK hc i pins s σ H E I hf st hg
  subst hP hw hK
  obtain ⟨xs,hq,hx⟩:=hg
  obtain ⟨its,rv,p,hz⟩:=I.list hq
  obtain ⟨f0,f1,f2,f3,f4,f5⟩:=hf it (by simp)
  have hl:=rv.length
  exact QY (hc.now I) st p.isList (by simp;omega) λh' eb=>⟨rfl,I.turned (t':=s.toks) (λb o hb e=>eb b o hb e) f0 f1 f3 f4 f5⟩
 self:=λ_ _ _ _ _ st h=>mf st h
section
variable {X:Cx}{tg:Expr}{pos:Pos}
theorem Vw {l:Expr}{tl:TE}(hl:PE X l tl):PIH X tg l (ZA X.K tl):=by
 intro pins s σ H R I h
 refine thn (hl pins s σ H _ I h) λv s1 ⟨x,H1,I1,r1,q1⟩=>?_
 obtain ⟨a,e,⟨xs,hq⟩,q⟩:=q1
 subst e
 cases r1
 obtain ⟨its,rv,p,hz⟩:=I1.list hq
 refine eK p.isList ?_
 refine ⟨s1.heap.objs.size,[s1.heap.objs.size],_,_,H1,rfl,I1.kept (t':=s1.toks) λb o e=>ak _ e,Xs a _,⟨_,aA _ rfl,rfl,rfl⟩,λb hb=>?_,q⟩
 have e:b=s1.heap.objs.size:=by simpa using hb
 subst e
 exact I1.fpOk (av _) (I1.hok.fresh (av _))
theorem Zv {es:List Expr}{k:Nat}{t:TGs}{n:Nat}(K:ai) (hu:Hu X) (h:PGs X es t)
  (hn:(d6 es X.env).length=n:=by rfl) (hst:(d6 es X.env).findIdx? (·.1)=none:=by rfl) (hK:X.K=K:=by rfl):PG X (.Tuple es k pos) (W7 K n t):=by
 subst hK
 intro pins s σ H v u Q I r hw
 obtain ⟨a,xs,e1,hq,hl,hw⟩:=hw
 subst e1
 cases r
 obtain ⟨its,rv,ht,hz⟩:=I.tuple hq
 refine Yd (hu.now I) ht (by simp [hn,<- hl,rv.length]) hst λh' hx=>?_
 have I1:Inv X pins σ H { s with heap:=h' }:=I.kept (t':=s.toks) λb o e=>hx b o (aB (aw e)) e
 exact h pins _ σ H xs _ Q I1 (by simpa using rv) hw
theorem Yj {osc:Scope}{ON N:List Str}{scope:Scope}{own:Nat}{caps:List Nat}{cl:List (Str×Addr)}{tg elt iter:Expr}{ifs:List Expr}{g:TG}{ti:TT}{te:TE}{pins:List (Addr×Obj)}{σ:St}{H:Hp}{s:Shared}{fp:List Addr}{it:Addr}
  {tn:Nat->Heap->Prop} {J:It} {Q:VK} {RR:ah->Addr->mq->Shared->Prop} {E:ah->Shared->Prop}
  (hu:Hu X) (S:CompSc osc ON scope own N caps) (hsc:X.env.scope=osc) (hN:X.N=ON) (hcl:∀x,cl.lookup x=if (x,bc)∈scope.names then X.env.cells.lookup x else none)
  (hg:∀cl C s H ex,Hu (X.block scope cl C N s H ex)->PG (X.block scope cl C N s H ex) tg g) (hif:∀cl C s H ex,Hu (X.block scope cl C N s H ex)->wR (X.block scope cl C N s H ex) ifs ti) (he:∀cl C s H ex,Hu (X.block scope cl C N s H ex)->PE (X.block scope cl C N s H ex) elt te)
  (I:Inv X pins σ H s) (T:TurnH X.prog X.w X.K tg J fp it tn) (st:tn 0 s.heap) (hf:∀b∈fp,yj X pins H b)
  (hw:∀acc,H acc=none->∃W:Nat->Nat->St->Hp->Prop,(∃m,W 0 m (yA own caps σ) (upd H acc (.lst [])))/\∀i m σ' H',W i m σ' H' ->
   (J.stop i H'/\Q (.ref acc) H')\/(J.go i H'/\∃NX:St->Hp->Prop,(∀σ2 H2,NX σ2 H2->∃m',m'<m/\W (i+1) m' σ2 H2) /\
    ∀x H2,J.yld i H' x H2->g x σ' H2 λσ3 H3=>ti σ3 H3 λok H4=>if ok=true then te σ3 H4 λv H5=>∃ys,H5 acc=some (.lst ys)/\ys.length<sizeLine/\NX σ3 (upd H5 acc (.lst (ys++[v]))) else NX σ3 H4))
  (fin:∀(D C:Addr) (H':Hp) (s':Shared),Inv X pins σ H' s'->BlockAt X pins H' C->(∃m,s'.heap.Ns C m)->Q (.ref D) H'->RR (.ref D) C (.ok .next) s') :
  ay (aD X.prog X.w) X.A (oG []) (λacc s₃=>ay (aD X.prog X.w) X.A (mx scope X.env.globals cl [] X.env.qual none .none (some X.env)) (λcenv s₄ =>
   cX (aD X.prog X.w) X.A (.compStart (.ListComp elt [⟨tg,iter,ifs,0⟩] scope pos) 0 (.ref it) acc { cenv with scope:=sA scope X.env }) (RR acc cenv.locals) s₄) E s₃) E s:=by
 have hfs:∀b∈fp,b<s.heap.objs.size:=λb hb=>by
  obtain ⟨o,e,_⟩:=T.obj _ _ st b hb
  exact aw e
 refine bx (ia S.nocell (by intro y hy;simp at hy) (λh₁ hns₁ hsb₁=>?_) S.kind)
 dsimp only at hns₁ hsb₁ ⊢
 generalize hH2:s.heap.push { cls:=.type "list",dict:=none,data:=.seq ([]:List ah).toArray }=H2 at hns₁ hsb₁ ⊢
 have hCsz:H2.objs.size=s.heap.objs.size+1:=by rw [<- hH2,cx]
 have old:∀b o,s.heap.get? b=some o->h₁.get? b=some o:=λb o e=>hsb₁.extBut b o (aB (by rw [hCsz];exact c5 (aw e))) (ak _ (hH2 ▸ ak _ e))
 have eD:h₁.get? s.heap.objs.size=some { cls:=.type "list",data:=.seq #[] }:=hsb₁.extBut _ _ (aB ∅) (ak _ (hH2 ▸ aA _ rfl))
 have hDn:H s.heap.objs.size=none:=I.hok.fresh (av _)
 obtain ⟨W,⟨m0,w0⟩,turn⟩:=hw s.heap.objs.size hDn
 have hns:h₁.Ns H2.objs.size λ_=>none:=hns₁
 have I1:Inv (X.block scope cl H2.objs.size N s H fp) [] (yA own caps σ) (upd H s.heap.objs.size (.lst [])) { s with heap:=h₁,toks:=s.toks+([]:List (Str×ah)).length } :=
  yL S hsc hN hcl I hf hfs rfl hCsz old eD hns _
 have hub:Hu (X.block scope cl H2.objs.size N s H fp):=hu.block I hf
 have st1:tn 0 h₁:=T.keep 0 _ _ st λb _ o e=>old b o e
 have fpB:∀{H':Hp},(∀b∈fp,H' b=none)->∀b∈fp,yj (X.block scope cl H2.objs.size N s H fp) [] H' b:=λ{H'} hn b hb=>by
  have ok:=I1.ok
  exact ⟨hn b hb,(ok.exf b hb).1,ok.exfs b hb,.inl hb,(ok.exf b hb).2,λp hp=>absurd (show p∈([]:List (Addr×Obj)) from hp) (by simp)⟩
 have back:∀{σ':St} {H':Hp} {s':Shared},Inv (X.block scope cl H2.objs.size N s H fp) [] σ' H' s'->Q (.ref s.heap.objs.size) H'->RR (.ref s.heap.objs.size) H2.objs.size (.ok .next) s':=λ{σ' H' s'} J1 q=>by
  have J2:Inv X pins σ H' s':=I.call' (ch:=fp) J1.os J1.base J1.hok J1.bare λb hb=>⟨(hf b hb).2.2.2.1,(hf b hb).2.1,(hf b hb).2.2.2.2.1,(hf b hb).2.2.2.2.2⟩
  obtain ⟨m,hm,_⟩:=J1.loc
  refine fin _ _ H' s' J2 ⟨J1.free,cG (aI I.lt ∅),aF I.sz ∅,λx c e z=>?_,λp hp z=>?_⟩ ⟨m,hm⟩ q
  ·obtain ⟨v,y⟩:=I.cell x c e
   have h1:H2.objs.size<s.heap.objs.size:=z ▸ y.lt
   exact absurd h1 ∅
  ·have h1:H2.objs.size<s.heap.objs.size:=z ▸ aw (I.pin p hp).1
   exact absurd h1 ∅
 have loop:∀s₃:Shared,s₃={ s with heap:=h₁,toks:=s.toks+([]:List (Str×ah)).length } ->
   cX (aD X.prog X.w) X.A (.compLoop (.ListComp elt [⟨tg,iter,ifs,0⟩] scope pos) 0 (.ref it) (.ref s.heap.objs.size) (oC scope cl H2.objs.size X.env)) (RR (.ref s.heap.objs.size) H2.objs.size) s₃:=by
  rintro s₃ rfl
  refine wa (λn s'=>∃i σ' H',Inv (X.block scope cl H2.objs.size N s H fp) [] σ' H' s'/\tn i s'.heap/\(∀b∈fp,H' b=none)/\W i n σ' H') ?_ m0
   ⟨0,_,_,I1,st1,λb hb=>by rw [ja (aB (hfs b hb))];exact (hf b hb).1,w0⟩
  rintro n s3 ⟨i,σ3,H3,I3,st3,fr3,w3⟩
  rcases turn i n σ3 H3 w3 with ⟨stop,qn⟩ | ⟨go,NX,hNX,step⟩
  ·refine thn (T.done (X.block scope cl H2.objs.size N s H fp) rfl rfl rfl hub i [] s3 σ3 H3 _ I3 (fpB fr3) st3 stop) λr s4 ⟨hr,I4⟩=>?_
   subst hr
   exact back I4 qn
  ·refine thn (T.item (X.block scope cl H2.objs.size N s H fp) rfl rfl rfl hub i [] s3 σ3 H3 _ I3 (fpB fr3) st3 go) λr s4 ⟨u,hr,h4⟩=>?_
   subst hr
   refine thn h4 λ_ s5 ⟨x,H5,I5,r5,y5,st5,fr5⟩=>?_
   have I5':=I5.pinned (fpB fr5) (T.obj _ _ st5)
   refine thn (hg cl H2.objs.size s H fp hub _ s5 σ3 H5 x u _ I5' r5 (step x H5 y5)) λ_ s6 ⟨σ6,H6,I6,q6⟩=>?_
   refine thn (hif cl H2.objs.size s H fp hub _ s6 σ6 H6 _ I6 q6) λok s7 ⟨H7,I7,q7⟩=>?_
   have again:∀{s8:Shared} {σ8:St} {H8:Hp},Inv (X.block scope cl H2.objs.size N s H fp) ([]++zc fp s5.heap) σ8 H8 s8->NX σ8 H8->∃m,m<n/\∃i σ' H',Inv (X.block scope cl H2.objs.size N s H fp) [] σ' H' s8/\tn i s8.heap/\(∀b∈fp,H' b=none)/\W i m σ' H':=λ{s8 σ8 H8} I8 n8=>by
    obtain ⟨m',hm,w8⟩:=hNX σ8 H8 n8
    refine ⟨m',hm,i+1,σ8,H8,I8.unpinned,T.keep _ _ _ st5 λb hb o e=>(I8.pin (b,o) (aE _ (aE _ (qB hb e)))).1,λb hb=>?_,w8⟩
    obtain ⟨o,e,d⟩:=T.obj _ _ st5 b hb
    exact (I8.pin (b,o) (aE _ (aE _ (qB hb e)))).2.1
   cases ok with
   | false =>
    rw [if_neg ar] at q7 ⊢
    exact again I7 q7
   | true =>
    rw [if_pos rfl] at q7 ⊢
    refine thn (he cl H2.objs.size s H fp hub _ s7 σ6 H7 _ I7 q7) λv s8 ⟨y,H8,I8,r8,ys,e8,z8,q8⟩=>?_
    refine thn (qM _ s8 σ6 H8 (.ref s.heap.objs.size) [y] _ [v] (λ_ H9=>NX σ6 H9) I8 rfl (.cons r8 .nil) ⟨_,ys,y,rfl,rfl,e8,z8,q8⟩) λ_ s9 ⟨_,H9,I9,_,q9⟩=>?_
    exact again I9 q9
 exact fM (loop _ rfl) (T.self _ 0 _ _ _ st1 (loop _ rfl))
theorem QU {osc:Scope}{ON N:List Str}{scope:Scope}{own:Nat}{caps:List Nat}{tg elt iter:Expr}{ifs:List Expr}{wi:TI}{g:TG}{ti:TT}{te:TE}(S:CompSc osc ON scope own N caps)
  (hu:Hu X) (hsc:X.env.scope=osc) (hN:X.N=ON) (hi:PIH X tg iter wi)
  (hg:∀cl C s H ex,Hu (X.block scope cl C N s H ex)->PG (X.block scope cl C N s H ex) tg g) (hif:∀cl C s H ex,Hu (X.block scope cl C N s H ex)->wR (X.block scope cl C N s H ex) ifs ti) (he:∀cl C s H ex,Hu (X.block scope cl C N s H ex)->PE (X.block scope cl C N s H ex) elt te)
  (hs:∀x,cn iter X.env x=pure x:=by intro _;rfl):PE X (.ListComp elt [⟨tg,iter,ifs,0⟩] scope pos) (YF own caps wi g ti te):=by
 intro pins s σ H Q I h
 obtain ⟨cl,hclos,hcl⟩:=yd (Jd S hsc I)
 rw [nu]
 refine dM (use:=none) rfl hs hclos S.kind S.loc (thn (hi pins s σ H _ I h) λv s1 h1=>thn h1 λitv s2 h2=>?_)
 obtain ⟨it,fp,tn,J,H2,e,I2,T,st2,f2,hw⟩:=h2
 subst e
 refine Yj (RR:=λacc C=>rH (aD X.prog X.w) X.A X.xe none (EP X pins σ Q) acc C) hu S hsc hN hcl hg hif he I2 T st2 f2 hw λD C H' s' J1 B ⟨m,hm⟩ q=>?_
 exact ⟨m,hm,λh' hs'=>⟨.ref D,H',B.gone J1 hs',rfl,q⟩⟩
end
end L2
end
section
namespace L2
open PySem PySem.Spec PySem.W PyProof.Rows PySem.Calls
section
variable {prog:Program}{w:aU}{A:b9}{E:ah->Shared->Prop}{s:Shared}{K:ai}{x D:Addr}{ox:Obj}{odo:Option Obj}
theorem U0 {Q:Option ah->Shared->Prop}(X:K.In s.heap) (I:rj s.heap x ox D odo) (hga:findIn K (.ref D) "__getattribute__" = some (some (.builtin "BaseException.__getattribute__"))) (hgt:findIn K (.ref D) "__getattr__" = some none)
  (hf:findObj K D odo "__class__" = some (.bind (.builtin "getset_descriptor.__get__") (.builtin "object.__class__"))) (hm:mroIn K D (.type "object")=some true) (hb:subIn K (.ref D) (.type "BaseException")=some true)
  (k:Q (some (.ref D)) { s with toks:=s.toks+1 }):ay (aD prog w) A (getAttr? (.ref x) "__class__") Q E s:=by
 obtain ⟨hh,g,d,t,os⟩:=s
 have L0:=I.type (M:=aD prog w)
 have L1:=looks_findIn (M:=aD prog w) X hga
 have L2:=looks_findIn (M:=aD prog w) X hgt
 have L3:=looks_find (M:=aD prog w) X I hf
 have L4:=looks_subIn (M:=aD prog w) X hb
 have LI:Looks (aD prog w) hh (isInstance (.ref x) (.type "BaseException")) true:=L0.andThen L4
 unfold getAttr? getAttrBy? getAttrBy
 refine aa (wpAny_mkText (aa (eC (bC (aa (L0.at (aa (L1.at ?_))))))))
 have n1:(onTheHeap (b7 D) && lj "BaseException.__getattribute__" == lj "object.__getattribute__")=false:=by
  rw [show (lj "BaseException.__getattribute__" == lj "object.__getattribute__")=false by decide +kernel,rC]
 dsimp only
 rw [if_neg (by rw [n1];exact ar)]
 unfold getAttrByItsOwn
 refine aa ?_
 show ay _ _ (rp (.ref D) "__getattr__") _ _ _
 refine L2.at ?_
 refine aa (eC (bC ?_))
 show ay _ _ (rS _ _ _) _ _ _
 unfold rS
 refine aa ?_
 rw [F.excAttr_ValueError.ga.bind (.ref x)]
 refine wpAny_pure ?_
 refine fm (codeAny_call_builtin F.excAttr_ValueError.ga.plain F.entry_bexc_ga ?_)
 have hk:builtinKind "BaseException.__getattribute__" = some .slot:=by decide +kernel
 have hsp:splitId "BaseException.__getattribute__" = some ("BaseException","__getattribute__"):=by decide +kernel
 have ha:=F.args_bexc_ga (.ref x) (.str "__class__" t)
 show ay (aD prog w) A.in1 (pq "BaseException.__getattribute__" ⟨[.ref x,.str "__class__" t],[]⟩) _ _ _
 simp only [pq,hk,hsp]
 refine aa (LI.at ?_)
 rw [if_neg ⋯]
 refine mF ha ?_
 unfold dS.«object.__getattribute__»
 refine aa (wpAny_pure ?_)
 refine aa (wpAny_pure ?_)
 refine aa (L0.at ?_)
 refine aa (L3.at ?_)
 show ay _ _ (i0 [.builtin "object.__class__"] (call (.builtin "getset_descriptor.__get__") [.builtin "object.__class__",.ref x,.ref D]) >>= ret) _ _ _
 refine aa (bC (fm (class_get (s:=⟨hh,g,d,t+1,os⟩) (ox:=ox) (od:=odo) X I hm ?_)))
 refine wpAny_pure ?_
 exact handed_on rfl (wpAny_pure k)
structure ExK (K:ai) (D:Addr):Prop where
 cl:(clsIn K D).isSome=true
 ga:findIn K (.ref D) "__getattribute__" = some (some (.builtin "BaseException.__getattribute__"))
 gt:findIn K (.ref D) "__getattr__" = some none
 ha:findIn K (.ref D) "__class__" = some (some (.builtin "object.__class__"))
 hn:specialIn K (.builtin "object.__class__") "__get__" = some (some (.builtin "getset_descriptor.__get__"))
 tk:takesIn K (.builtin "object.__class__")=some true
 mo:mroIn K D (.type "object")=some true
 be:subIn K (.ref D) (.type "BaseException")=some true
theorem ExK.kit (e:ExK K D):KitX K (.ref x) (.ref D) (λh=>∃o,h.get? x=some o/\o.cls = .ref D/\o.dict=none/\notCls o=true) where
 ty:=λM h _ ⟨o,g,c,_⟩=>c ▸ (sQ g).andThen .now
 it:=λM h X _=>by
  have cl:=e.cl
  unfold clsIn at cl
  split at cl
  ·rename_i c' d' cd' sl' ho
   intro A' Q' E' s' k q
   unfold isType loadHead
   exact aa (rm (k _ _ (X _ _ ho)) (wpAny_pure q))
  ·cases cl
 ne:=λh tp dd its n sl X htp=>by
  have cl:=e.cl
  refine Bool.eq_false_iff.mpr λq=>?_
  obtain rfl:D=tp:=Value.ref.inj (beq_iff_eq.mp q)
  unfold clsIn at cl
  split at cl
  ·rename_i c' d' cd' sl' ho
   cases (X _ _ ho).symm.trans htp
  ·cases cl
 ca:=λX ⟨o,g,c,dn,no⟩ k=>by
  refine U0 (ox:=o) (odo:=none) X ⟨g,c,no,by rw [dn];trivial⟩ e.ga e.gt ?_ e.mo e.be k
  obtain ⟨cd,hc⟩:=Option.isSome_iff_exists.mp e.cl
  unfold findObj
  rw [hc,pw,e.ha,pw]
  simp [e.hn,e.tk]
end
end L2
end
section
namespace L2
open PySem PySem.Spec PySem.W PyProof.Rows PySem.Calls
noncomputable def JG (oe:Obj) (cls:ah):Prop:=oe.cls=cls/\oe.dict=none/\∃ws,oe.data = .fields ws/\ws[2]? = some .none
theorem JG.noCell {oe:Obj}{cls:ah}(h:JG oe cls):∀v,oe.data≠.cell v:=λv z=>by
 obtain ⟨_,_,ws,d,_⟩:=h
 rw [d] at z
 cases z
theorem JG.noCls {oe:Obj}{cls:ah}(h:JG oe cls):notCls oe=true:=by
 obtain ⟨_,_,ws,d,_⟩:=h
 unfold notCls
 rw [d]
noncomputable abbrev Cx.handE (X:Cx) (a:Addr) (oe:Obj) (pn:List (Addr×Obj)):Cx:={ X with A:=X.A.mark (some (.ref a)),calm:=false,pn:=pn++[(a,oe)],xe:=λ_ _=>False }
section
variable {X:Cx}{pins:List (Addr×Obj)}{σ:St}{H:Hp}{s:Shared}{a:Addr}{oe:Obj}{cls:ah}
theorem Inv.toHandE (I:Inv X pins σ H s) (ga:s.heap.get? a=some oe) (ha:H a=none) (hl:a≠X.env.locals) (hf:a∉X.fs) (hc:∀v,oe.data≠.cell v):Inv (X.handE a oe (X.pn++pins)) [] σ H s :=
 ⟨⟨I.ok.mod,I.ok.kind,I.ok.glob,I.ok.blt,I.ok.above,I.ok.inj,I.ok.has,I.ok.cab,(λz=>(by cases z)),I.ok.frames,I.ok.stk,I.ok.exf,I.ok.bs,I.ok.bsz,I.ok.noex,I.ok.exfs,I.ok.funs,I.ok.frf⟩,I.os,I.bare,I.base,I.loc,I.cell,I.free,I.freeC,λp hp=>by
  rw [aP] at hp
  rcases List.mem_append.mp hp with z | z
  ·exact I.pin p z
  ·obtain rfl:p=(a,oe):=by simpa using z
   exact ⟨ga,ha,hl,hf,hc⟩,I.hok,I.len⟩
theorem Inv.ofHandE (hd:X.calm=true->X.A.handled=none) (I:Inv (X.handE a oe (X.pn++pins)) [] σ H s):Inv X pins σ H s :=
 ⟨⟨I.ok.mod,I.ok.kind,I.ok.glob,I.ok.blt,I.ok.above,I.ok.inj,I.ok.has,I.ok.cab,hd,I.ok.frames,I.ok.stk,I.ok.exf,I.ok.bs,I.ok.bsz,I.ok.noex,I.ok.exfs,I.ok.funs,I.ok.frf⟩,I.os,I.bare,I.base,I.loc,I.cell,I.free,I.freeC,
  λp hp=>I.pin p (cB _ (cB _ hp)),I.hok,I.len⟩
theorem wu {M:sI}{A:b9}{E:ah->Shared->Prop}{i:Nat}{n:Str}{pos:Pos}{Q:Unit->Shared->Prop}(I:Inv X pins σ H s) (hN:X.N.Nodup) (hi:X.N[i]? = some n) (hk:X.env.scope.names.lookup n=some .local)
  (h:∀s',Inv X pins (σ.set i none) H s'->Q () s'):ay M A (do bindName X.env n .none;unbindBehindTheSuite X.env n pos) Q E s:=by
 obtain ⟨m,hn,hl⟩:=id I.loc
 have nc:(X.env.scope.kind == .class || (X.env.scope.kind == .module && X.env.locals != X.env.globals))=false:=by rw [I.ok.kind];rfl
 have hiσ:i<σ.length:=by rw [I.len];exact (List.getElem?_eq_some_iff.mp hi).1
 refine wpAny_nameGoes_keeps hk hn nc λg v hn' hs=>?_
 obtain ⟨oL,_,_,hoL,_⟩:=id hn
 have lo:∀{b o},X.s₀.heap.get? b=some o->g.get? b=s.heap.get? b:=λ{b o} e=>hs.2 b (aB (aI (aw e) I.ok.above))
 refine h _ ⟨I.ok,I.os,I.bare,⟨λb o e n hb hx=>(lo e).trans (I.base.keep b o e n hb hx),λb o e n hb hx=>?_,I.base.free,λb o e hx=>?_,I.base.tups,I.base.frzs,I.base.tbls⟩,⟨_,hn',λj y v' e1 e2 e3=>?_⟩,λy c e=>?_,I.free,I.freeC,λp hp=>?_,λb ob e=>?_,by simpa using I.len⟩
 ·obtain ⟨sl,e1⟩:=I.base.slot b o e n hb hx
  exact ⟨sl,(lo e).trans e1⟩
 ·obtain ⟨o',e1⟩:=I.base.there b o e hx
  exact ⟨o',(lo e).trans e1⟩
 ·by_cases hj:j=i
  ·subst hj
   rw [fH hiσ] at e2
   cases e2
  ·rw [i6 (cE hj)] at e2
   obtain ⟨u',r',q⟩:=hl j y v' e1 e2 e3
   refine ⟨u',r',?_⟩
   rcases q with ⟨k,e⟩ | ⟨k,c,e,z⟩
   ·have ny:y≠n:=λz=>hj (kD hN e1 (z ▸ hi))
    exact .inl ⟨k,by show (if y=n then v else m y)=_;rw [if_neg ny];exact e⟩
   ·exact .inr ⟨k,c,e,z.sameBut hs (I.cne y c e)⟩
 ·obtain ⟨w',z⟩:=I.cell y c e
  exact ⟨w',z.sameBut hs (I.cne y c e)⟩
 ·obtain ⟨e,n,ne,nf,d⟩:=I.pin p hp
  exact ⟨(hs.2 p.1 ne).trans e,n,ne,nf,d⟩
 ·refine (I.hok b ob e).stay (λc w' hc q=>(hs.2 c ?_).trans q) (λ_ q=>q) λ_ _ q=>q
  rintro rfl
  rcases hc with z | z
  ·rw [<- z,I.free] at e;cases e
  ·rw [I.free] at z;cases z
end
noncomputable def Ends.un (D:Ends) (i:Nat):Ends:={ nx:=λσ H=>D.nx (σ.set i none) H,rt:=D.rt,bk:=λσ H=>D.bk (σ.set i none) H,ct:=λσ H=>D.ct (σ.set i none) H }
noncomputable def Wm (K:ai) (C:Addr) (i:Nat) (tb:(ah->St->Hp->Prop)->TS) (th:Addr->Obj->TS):TS:=λD σ H =>
 tb (λcls σ' H'=>exmOne K cls (.ref C)=some true/\∀a oe,JG oe cls->H' a=none->th a oe (D.un i) (σ'.set i (some (.ref a))) H') D σ H
theorem QV {X:Cx}{body suite:List Stmt}{b₀:Stmt}{x n:Str}{np hpos pos:Pos}{C:Addr}{i:Nat}{tb:(ah->St->Hp->Prop)->TS}{th:Addr->Obj->TS}(K:ai) (st:X.stack=X.env::X.outer) (hf:X.env.frame=some X.env.locals) (hm:X.mg x=some (.ref C)) (hg:Gl X x)
  (hN:X.N.Nodup) (hi:X.N[i]? = some n) (hk:X.env.scope.names.lookup n=some .local)
  (hb:∀(pn:List (Addr×Obj)) (J:ah->St->Hp->Prop),PSs (X.tryX pn J) body (tb J)) (hs:∀(a:Addr) (oe:Obj) (pn:List (Addr×Obj)),PSs (X.handE a oe pn) (b₀::suite) (th a oe)) (hdb:(x == ("__debug__" : Str))=false:=by decide) (hK:X.K=K:=by rfl) :
  PS X (.Try body [.ExceptHandler (some (.Name x np)) (some n) (b₀::suite) hpos] [] [] pos) (Wm K C i tb th):=by
 subst hK
 intro pins s σ H D I h
 refine wpAny_Try_except (aW (hb (X.pn++pins) _ [] s σ H D I.toTry h) (λf s1 q=>?_) λe s1 q=>?_)
 ·have q':SP X pins D f s1:=spOf (λI=>Inv.ofTryP I) q
  cases f with
  | next=>exact fj q'
  | brk=>exact q'
  | cont=>exact q'
  | ret u=>exact q'
 ·obtain ⟨a,cls,σ',H',rfl,fl,hx,ht⟩:=q
  have f:xV X pins σ' H' s1 a cls .none:=by
   obtain ⟨s,H,I,os,b,u,ok,fy⟩:=fl
   exact ⟨s,H,Inv.ofP I,os,b,u,ok,fy⟩
  obtain ⟨B,a0,fw,up⟩:=f.under
  have fr:X.A.frames=some (X.env::X.outer):=by rw [<- st];exact I.ok.frames
  rw [st] at fw
  refine Zw fr fw.2.2.1 hf fw.2.2.2 fw.1 fw.2.1 λh2 n1 n2 n3 up2=>?_
  refine yo (s:={ s1 with heap:=h2 }) n1 n2 n3 λh3 m1 m2 m3 m4=>?_
  have up3:s1.heap.UpToSlots h3:=up2.trans λb o e n=>⟨o.slots,m4 b o e n⟩
  have f3:xV X pins σ' H' { s1 with heap:=h3 } a cls .none:=up h3 .none m1 up3 m3
  have I3:=f3.inv.toHand a
  refine wpAny_handleBy_cons (codeAny_handlers_test ?_) (by intro z;cases z)
  refine ym (X:=X.hand a) I3 hg hm ?_ hdb
  obtain ⟨oe,_,_,_,_,he,hc,_⟩:=id m3
  have lt:Looks (aD X.prog X.w) h3 (rz (.ref a)) cls:=hc.1 ▸ (sQ he).andThen .now
  refine exm_one (M:=aD X.prog X.w) I3.kIn lt hx _ _ _ _ (λ_ _ e=>e) ?_
  refine codeAny_handlers_suite_as ?_
  refine yo (s:={ s1 with heap:=h3 }) m1 m2 m3 λh4 k1 k2 k3 k4=>?_
  have f4:xV X pins σ' H' { s1 with heap:=h4 } a cls .none:=up h4 .none k1 (up3.trans λb o e n=>⟨o.slots,k4 b o e n⟩) k3
  have I4:=f4.inv
  obtain ⟨oe4,vs,T,oT,ts,g1,g2,g3,_⟩:=id k3
  have eo:JG oe4 cls:=⟨g2.1,g2.2.2,vs,g3,g2.2.1.2⟩
  have ha:H' a=none:=by
   obtain ⟨_,_,_,_,_,_,_,fy⟩:=f4
   exact fy.ha
  have hl:a≠X.env.locals:=λz=>by
   obtain ⟨m,⟨o,es,ep,ho,hd,_⟩,_⟩:=I4.loc
   rw [<- z,g1] at ho
   cases ho
   rw [g3] at hd
   cases hd
  have hfs:a∉X.fs:=λz=>by
   have z':a∈frs X.stack:=by
    rw [st]
    unfold frs
    rw [eX,hf]
    exact aK _ z
   obtain ⟨_,o,ho,hn⟩:=I4.stack.mem z'
   rw [g1] at ho
   cases ho
   exact hn _ g3
  have I5:Inv (X.handE a oe4 (X.pn++pins)) [] σ' H' { s1 with heap:=h4 }:=I4.toHandE g1 ha hl hfs eo.noCell
  refine wG (X:=X.handE a oe4 (X.pn++pins)) (v:=V.ref a) I5 hN hi (.inl hk) rfl (λs6 I6=>?_) (.inr hk)
  refine aW (hs a oe4 (X.pn++pins) [] s6 _ H' (D.un i) I6 (ht a oe4 eo ha)) (λg s7 q=>?_) λ_ _ z=>bp z
  cases g with
  | next=>obtain ⟨σ7,H7,I7,q7⟩:=q;exact wu (Inv.ofHandE I.ok.hd I7) hN hi hk λs8 I8=>⟨_,H7,I8,q7⟩
  | brk=>obtain ⟨σ7,H7,I7,q7⟩:=q;exact wu (Inv.ofHandE I.ok.hd I7) hN hi hk λs8 I8=>⟨_,H7,I8,q7⟩
  | cont=>obtain ⟨σ7,H7,I7,q7⟩:=q;exact wu (Inv.ofHandE I.ok.hd I7) hN hi hk λs8 I8=>⟨_,H7,I8,q7⟩
  | ret u=>obtain ⟨v,σ7,H7,I7,r7,q7⟩:=q;exact wu (Inv.ofHandE I.ok.hd I7) hN hi hk λs8 I8=>⟨v,_,H7,I8,r7,q7⟩
noncomputable def cxH (P:Program) (w:aU) (K:ai) (mg:Str->Option ah) (base:Heap) (N:List Str) (qual:Str) (scope:Scope) (f:Addr) (cd:ah) (A:b9) (outer:List Env) (s:Shared) (H:Hp):Cx :=
 { vp (λ_ _ _ _ _ _=>False) P w K mg base N qual scope f cd A outer s H (λ_ _ _=>False) with calm:=false }
structure AtE (A:b9) (outer:List Env) (s:Shared) (H:Hp) (a:Addr) (oe:Obj) (cls:ah):Prop where
 hd:A.handled=some (.ref a)
 at_:s.heap.get? a=some oe
 ex:JG oe cls
 free:H a=none
 out:a∉frs outer
noncomputable def FnH (P:Program) (w:aU) (K:ai) (mg:Str->Option ah) (base:Heap) (k:Nat) (f:Addr) (fd:FuncData) (ps:List Str) (sp:Addr->ah->List V->Hp->VK->Prop):Prop :=
 ∀(A:b9) (outer:List Env) (s:Shared) (H:Hp) (args:Args) (us:List ah) (vs:List V) (Q:VK) (a:Addr) (oe:Obj) (cls:ah),A.depth+3*k+5<recursionLimit->A.units+16*k+200<cLine->AtE A outer s H a oe cls ->
  Env0 P w K mg base A outer s H->ow s fd args (ps.zip us)->jI vs us->vs.length=ps.length->sp a cls vs H Q->cX (aD P w) A (.call (.ref f) args) (CR (λ_ _ _ _ _ _=>False) outer P w H s Q (λ_ _ _=>False)) s
theorem Xv {P:Program}{w:aU}{K:ai}{mg:Str->Option ah}{base:Heap}{N ps:List Str}{qual:Str}{scope:Scope}{f:Addr}{cd:ah}{A:b9}{outer:List Env}{s s1:Shared}{H:Hp}{us:List ah}{vs:List V}(S:FnScope N ps scope) (e0:Env0 P w K mg base A outer s H) (hl:vs.length=ps.length) (r:jI vs us)
  (x:InCallC s s.heap.objs.size (pE (ie qual scope s.heap.objs.size f cd).kindOf (ps.zip us) λ_=>none) (lx (s.heap.objs.size+1) scope.names []) (pG (ie qual scope s.heap.objs.size f cd).kindOf (ps.zip us) λ_=>none) s1) :
  Inv (cxH P w K mg base N qual scope f cd A outer s H) [] (start N vs) H s1:=by
 have I:=uw (CX:=λ_ _ _ _ _ _=>False) (A:={ A with handled:=none }) (E:=λ_ _ _=>False) (P:=P) (w:=w) S rfl ⟨e0.frames,e0.mod,e0.bs,e0.bsz,e0.funs,e0.frf,e0.hok,e0.bare⟩ hl r x
 exact ⟨⟨I.ok.mod,I.ok.kind,I.ok.glob,I.ok.blt,I.ok.above,I.ok.inj,I.ok.has,I.ok.cab,(λz=>(by cases z)),mv e0.frames,I.ok.stk,I.ok.exf,I.ok.bs,I.ok.bsz,I.ok.noex,I.ok.exfs,I.ok.funs,I.ok.frf⟩,I.os,I.bare,I.base,I.loc,I.cell,I.free,I.freeC,I.pin,I.hok,I.len⟩
theorem YH {P:Program}{w:aU}{K:ai}{mg:Str->Option ah}{base:Heap}{N:List Str}{qual:Str}{scope:Scope}{f:Addr}{cd:ah}{A:b9}{outer:List Env}{s:Shared}{H:Hp}{a:Addr}{oe:Obj}{cls:ah}(e:AtE A outer s H a oe cls):Hu (cxH P w K mg base N qual scope f cd A outer s H):=by
 obtain ⟨_,_,ws,d,d2⟩:=e.ex
 exact ⟨a,oe,ws,e.hd,e.at_,e.free,e.out,(λz=>by cases z),d,d2⟩
theorem Fun.okH {P:Program}{w:aU}{K:ai}{mg:Str->Option ah}{base:Heap}{x qual:Str}{st:Stmt}{f:Addr}{fd:FuncData}{N ps:List Str}{k:Nat}{sp:Addr->ah->List V->Hp->VK->Prop}(F:Fun K x qual st f fd) (S:FnScope N ps (j9 st))
  (hbody:∀(cdv:ah) (A:b9) (outer:List Env) (s:Shared) (H:Hp) (vs:List V) (Q:VK) (a:Addr) (oe:Obj) (cls:ah),AtE A outer s H a oe cls->sp a cls vs H Q ->
   ∃t,PSs (cxH P w K mg base N qual (j9 st) f cdv A outer s H) (jO st) t/\t { nx:=λ_ H'=>Q .non H',rt:=Q } (start N vs) H):FnH P w K mg base (k+1) f fd ps sp:=by
 obtain ⟨oc,od,kV,doc,pm,an,cdv,ct,osl,rfl,lk,hcd⟩:=F.ex
 intro A outer s H args us vs Q a oe cls dp un ae e0 hb r hl hsp
 have KX:K.In s.heap:=e0.mod.kin.keeps λb o e=>(e0.bs b o e).1
 have lim:s.heap.NoLimit:=e0.mod.nolimit.keeps λb o e=>(e0.bs b o e).1
 have kinds:∀y∈ps.zip us,(j9 st).names.lookup y.1=some .local\/((j9 st).names.lookup y.1=some .cell/\((lx (s.heap.objs.size+1) (j9 st).names []).lookup y.1).isSome=true):=λ⟨n,v⟩ hy=>by
  rcases S.par n (fk hy).1 with q | q
  ·exact .inl q
  ·exact .inr ⟨q,dY _ _ _ (.inl q)⟩
 refine mi ∅ (KX _ _ lk) rfl S.co S.gen rfl (nM KX hcd) (hb _ _ _ _ ?_)
 refine eN S.kind kinds λenv he s1 x=>?_
 subst he
 refine ⟨lim.keeps x.toInCall.keep,codeAny_func ?_⟩
 obtain ⟨t,ht,hq⟩:=hbody cdv A outer s H vs Q a oe cls ae hsp
 have I:Inv (cxH P w K mg base N qual (j9 st) f cdv A outer s H) [] (start N vs) H s1:=Xv S e0 hl r x
 refine aW (ht [] s1 (start N vs) H _ I hq) (λfl s' hs=>?_) λe s' hs=>hs
 have fin:∀{σ':St} {H':Hp} {v:V} {u:ah},Inv (cxH P w K mg base N qual (j9 st) f cdv A outer s H) [] σ' H' s'->jK v u->Q v H'->CE outer P w H s Q u s':=λ{σ' H' v u} J rv q =>
  ⟨v,H',J.os,J.bare,J.base,J.hok,rv,q⟩
 cases fl with
 | ret u=>obtain ⟨v,σ',H',J,rv,q⟩:=hs;exact fin J rv q
 | next=>obtain ⟨σ',H',J,q⟩:=hs;exact fin (v:=V.non) (u:=aS) J rfl q
 | brk=>obtain ⟨_,_,_,q⟩:=hs;exact bp q
 | cont=>obtain ⟨_,_,_,q⟩:=hs;exact bp q
structure CalH (P:Program) (w:aU) (K:ai) (mg:Str->Option ah) (base:Heap) (k:Nat) (x:Str) (ps:List Str) (sp:Addr->ah->List V->Hp->VK->Prop):Prop where
 ex:∃f fd,FnH P w K mg base k f fd ps sp/\y9 K fd ps []/\mg x=some (.ref f)/\bK K (.ref f)=true
theorem CalH.mk' {P:Program}{w:aU}{K:ai}{mg:Str->Option ah}{base:Heap}{k:Nat}{x:Str}{ps:List Str}{sp:Addr->ah->List V->Hp->VK->Prop}{st:Stmt}{h:Heap}{f:Addr}{oc:ah}{od an:Option Addr}{osl:Array (Option ah)}{kV doc pm cdv ct:ah}
  (X:K.In h) (G:h.Ns mainGlobals mg) (a:aQ K mainGlobals x=some (some (.ref f)))
  (l:K.lookup f=some ⟨oc,od,.func (bD x x (jY st) (jO st) (j9 st) .none kV doc pm an cdv ct),osl⟩) (c:cz K cdv x=true) (k':bK K (.ref f)=true)
  (hb:∀(kV doc pm:ah) (an:Option Addr) (cdv ct:ah) (us:List ah),us.length=ps.length->cC (bD x x (jY st) (jO st) (j9 st) .none kV doc pm an cdv ct) ⟨us,[]⟩=pure (ps.zip us))
  (ok:∀{f:Addr} {fd:FuncData},Fun K x x st f fd->FnH P w K mg base k f fd ps sp):CalH P w K mg base k x ps sp:=by
 have F:=vQ (st:=st) l c k'
 exact ⟨f,_,ok F,F.binds hb,aM X G a,k'⟩
noncomputable def Wd (a:Addr) (oe:Obj) (n:Nat) (sp:Addr->ah->List V->Hp->VK->Prop) (t:TA):TE:=λσ H Q=>t σ H λvs H1=>vs.length=n/\∃cls,JG oe cls/\sp a cls vs H1 Q
theorem Zg {X:Cx}{k:Nat}{x:Str}{ps:List Str}{sp:Addr->ah->List V->Hp->VK->Prop}{e:Expr}{es:List Expr}{t:TA}{p pos:Pos}{a:Addr}{oe:Obj}(c:CalH X.prog X.w X.K X.mg X.base k x ps sp) (dp:X.A.depth+3*k+5<recursionLimit) (un:X.A.units+16*k+200<cLine)
  (hd:X.A.handled=some (.ref a)) (hp:(a,oe)∈X.pn) (hg:Gl X x) (ha:PA X (e::es) t)
  (hdb:(x == ("__debug__" : Str))=false:=by decide) (he:aN (e::es) X.env=(false,eval e X.env)::aN es X.env:=by rfl) (hpl:(cT pos (aN es X.env)).any (·.1)=false:=by rfl) :
  PE X (.Call (.Name x p) (e::es) [] pos) (Wd a oe ps.length sp t):=by
 obtain ⟨f,fd,F,hb,hm,hk⟩:=c.ex
 intro pins s σ H Q I h
 refine cU (ym I hg hm ?_ hdb)
 refine dj (h₀:=X.base) I.ok.mod.kin hk (thn (ha pos pins s σ H _ I h) λus s1 ⟨vs,H1,I1,r,n,cls,eo,q⟩=>⟨I1.kIn,?_⟩) he hpl
 have hl:us.length=ps.length:=by rw [<- r.length];exact n
 have hb':=hb s1 us I1.kIn (by rw [aP];exact hl)
 rw [aP] at hb'
 obtain ⟨g1,g2,g3,g4,g5⟩:=I1.pin (a,oe) (cB _ hp)
 have ae:AtE X.A X.stack s1 H1 a oe cls:=⟨hd,g1,eo,g2,λz=>(List.mem_cons.mp (I1.stkSub a z)).elim g3 g4⟩
 refine fm (de (F X.A X.stack s1 H1 ⟨us,[]⟩ us vs Q a oe cls dp un ae I1.env0 hb' r n q) λr s' hq=>?_)
 cases r with
 | error e=>exact bp hq
 | ok fl =>
  cases fl with
  | ret u=>exact I1.after hq
  | next=>exact bp hq
  | brk=>exact bp hq
  | cont=>exact bp hq
theorem Qy {X:Cx}{a D:Addr}{oe:Obj}(K:ai) (ek:ExK K D) (ga:X.s₀.heap.get? a=some oe) (ha:X.H₀ a=none) (hf:a∉X.fs) (hx:a∉X.ex) (eo:JG oe (.ref D)) (hK:X.K=K:=by rfl) :
  qP X (.builtin "isinstance") (λxs H Q=>∃c cv b,xs=[.ref a,c]/\(∀u,jK c u->u=cv)/\aG K (.ref D) cv=some b/\Q (.bl b) H):=by
 subst hK
 intro pins s σ H vs us Q I r h
 obtain ⟨c,cv,b,rfl,hc,hb,q⟩:=h
 cases r with
 | cons r1 r2 =>
  cases r2 with
  | cons r3 r4 =>
   cases r4
   cases (show _=b7 a from r1)
   cases hc _ r3
   exact bT (ExK.kit (x:=a) ek) I.kIn ⟨oe,I.base.keep a oe ga ha hf hx,eo.1,eo.2.1,eo.noCls⟩ hb (λz=>nomatch z) λtk=>⟨.bl b,H,I.tok _,rfl,q⟩
end L2
end
section
namespace L2
open PySem.W
theorem gN.calH {P:Program}{w:aU}{K:ai}{mg:Str->Option ah}{base:Heap}{k:Nat}{x:Str}{ps:List Str}{st:Stmt}{sp:Addr->ah->List V->Hp->VK->Prop}(a:gN K x st) (z:Zt P w K mg base) (hb:gB x x st ps)
  (ok:∀{f:Addr} {fd:FuncData},Fun K x x st f fd->FnH P w K mg base k f fd ps sp):CalH P w K mg base k x ps sp:=by
 obtain ⟨a,l,c,k'⟩:=a
 obtain ⟨X,G⟩:=z
 exact CalH.mk' X G a l c k' hb ok
end L2
end
section
namespace L2
open PySem.W
end L2
end
section
namespace L2
end L2
namespace L2
section
variable (P:Program) (w:aU)
end
section
variable {P:Program}{w:aU}{H H':Hp}{h h':Heap}{a:Addr}{o:HO}
end
section
variable {P:Program}{w:aU}{H:Hp}{h h':Heap}{x e:Addr}{o':HO}
end
section
variable {fs fs' ex ex':List Addr}{H H1 H2:Hp}{h h1 h2 h':Heap}{a x e:Addr}{o:HO}
end
end L2
namespace L2
section
variable {X:Cx}{pins:List (Addr×Obj)}{σ:List (Option V)}{H H':Hp}{s:Shared}{h':Heap}
end
end L2
namespace L2
section
variable {X:Cx}
variable {a b:Expr}{ta tb:TE}{pos:Pos}
variable {tA tB':TT}{vK:List Expr}
end
end L2
namespace L2
section
variable {X:Cx}{pins:List (Addr×Obj)}{σ:St}{H:Hp}{s:Shared}{a:Addr}{xs ys:List V}
end
section
variable {X:Cx}{pins:List (Addr×Obj)}{σ:St}{H:Hp}{s:Shared}{E:ah->Shared->Prop}
end
section
variable {X:Cx}{st:Stmt}{vK:List Stmt}{t u:TS}{e:Expr}{te:TE}{pos:Pos}
end
section
variable {X:Cx}{pos:Pos}
end
section
variable {X:Cx}{pos:Pos}
end
end L2
namespace L2
section
variable {X:Cx}{tg:Expr}
end
end L2
namespace L2
section
variable {X:Cx}{a b c:Expr}{ta tb tc:TE}{pos:Pos}
end
section
variable {X:Cx}{a b c:Expr}{ta tb tc:TE}{pos:Pos}
end
end L2
namespace L2
section
variable {prog:Program}{w:aU}{A:b9}{E:ah->Shared->Prop}{s:Shared}{K:ai}{x dx C f:Addr}{mA:Str->Option ah}{name:Str}{v:ah}
end
section
variable {P:Program}{w:aU}{H H':Hp}{h h':Heap}{a C dx:Addr}{fs fs':List (Str×V)}
end
section
variable {X:Cx}{pins:List (Addr×Obj)}{σ:St}{H:Hp}{s:Shared}{a C dx:Addr}{fs:List (Str×V)}{f:Str}{v:V}{A:b9}{E:ah->Shared->Prop}
end
section
variable {X:Cx}{o e value:Expr}{f:Str}{pos pos' tpos:Pos}{ta tv:TE}
end
section
variable {X:Cx}{pins:List (Addr×Obj)}{σ:St}{H:Hp}{s:Shared}{A:b9}{E:ah->Shared->Prop}{Q:ah->Shared->Prop}{c:ah}{b:Bool}
end
end L2
namespace L2
section
variable {X:Cx}{e:Expr}{es:List Expr}{te:TE}{t:TA}{pos:Pos}
end
section
variable {X:Cx}{pins:List (Addr×Obj)}{σ:St}{H:Hp}{s s':Shared}
end
section
variable {X:Cx}{CX:CXT}{k:Nat}{f C:Addr}{fd:FuncData}{ps:List Str}{sp:Sp}{dvs:List V}{ds:List ah}{E:XK}{x m:Str}{p pos apos:Pos}{e o:Expr}{es:List Expr}{ta:TE}{t:TA}
end
section
variable {X:Cx}{CX:CXT}{k:Nat}{f C:Addr}{fd:FuncData}{ps ks:List Str}{sp:Sp}{E:XK}{x m:Str}{p pos apos kpos:Pos}{e o:Expr}{es:List Expr}{kws:List lM}{te ta:TE}{t tk:TA}{nm:Option Str}
variable {g:List ah->List ah->List ah}{gV:List V->List V->List V}
end
end L2
namespace L2
section
variable {X:Cx}{x:Str}{p pos:Pos}{e:Expr}{es:List Expr}{t:TA}{id T:String}{r:List V->Hp->VK->Prop}
end
end L2
namespace L2
section
variable {κ:Type} [DecidableEq κ]
noncomputable def qx (kvs:List (κ×V)) (k:κ):Option V:=(kvs.find? λkv=>decide (kv.1=k)).map (·.2)
noncomputable def qt (kvs:List (κ×V)) (k:κ) (v:V):List (κ×V) :=
 if (kvs.any λkv=>decide (kv.1=k))=true then kvs.map (λkv=>if kv.1=k then (kv.1,v) else kv) else kvs++[(k,v)]
noncomputable def zg (kvs:List (κ×V)) (k:κ):List (κ×V):=kvs.filter λkv=>decide (kv.1≠k)
theorem yK {k:κ}:qx ([]:List (κ×V)) k=none:=rfl
theorem wY {p:κ×V}{r:List (κ×V)}{k:κ}(e:p.1=k):qx (p::r) k=some p.2:=by simp [qx,eA,e]
theorem kj {p:κ×V}{r:List (κ×V)}{k:κ}(e:¬p.1=k):qx (p::r) k=qx r k:=by simp [qx,eA,e]
theorem yC (k:κ):∀kvs:List (κ×V),(kvs.any λkv=>decide (kv.1=k))=(qx kvs k).isSome
 | []=>rfl
 | p::r=>by
  rw [fe]
  by_cases e:p.1=k
  ·simp only [wY e,decide_eq_true e,Bool.true_or,Option.isSome_some]
  ·rw [kj e,decide_eq_false e,Bool.false_or];exact yC k r
theorem yT (kvs:List (κ×V)) (k:κ) (v:V):(qt kvs k v).length<=kvs.length+1:=by
 unfold qt
 split
 ·rw [af];omega
 ·rw [az,bq,pT];omega
theorem yM {kvs:List (κ×V)}{k:κ}(v:V) (h:qx kvs k=none):qt kvs k v=kvs++[(k,v)]:=by
 unfold qt
 rw [yC,h]
 exact if_neg ⋯
theorem yQ.isSome_eq {o:Option V}{u:Option ah}(r:yQ o u):o.isSome=u.isSome:=by
 cases o with
 | none=>cases u with
  | none=>rfl
  | some _=>exact (show False from r).elim
 | some _=>cases u with
  | none=>exact (show False from r).elim
  | some _=>rfl
theorem KV.val {kvs:List (κ×V)}{vs:List (κ×ah)}(r:KV kvs vs) (k:κ):yQ (qx kvs k) (lU vs k):=by
 unfold KV at r
 induction r with
 | nil=>exact cH
 | @cons p q ps qs h t ih =>
  obtain ⟨h1,h2⟩:=h
  by_cases e:p.1=k
  ·have e':q.1=k:=h1.symm.trans e
   have b:lU (q::qs) k=some q.2:=by simp [lU,eA,e']
   rw [wY e,b];exact h2
  ·have e':¬q.1=k:=λz=>e (h1.trans z)
   have b:lU (q::qs) k=lU qs k:=by simp [lU,eA,e']
   rw [kj e,b];exact ih
theorem KV.any {kvs:List (κ×V)}{vs:List (κ×ah)}(r:KV kvs vs) (k:κ):(kvs.any λkv=>decide (kv.1=k))=vs.any λkv=>decide (kv.1=k):=by
 unfold KV at r
 induction r with
 | nil=>rfl
 | cons h t ih=>rw [fe,fe,ih,h.1]
theorem KV.repl {kvs:List (κ×V)}{vs:List (κ×ah)}(r:KV kvs vs) (k:κ) {y:V}{u:ah}(ry:jK y u) :
  KV (kvs.map λkv=>if kv.1=k then (kv.1,y) else kv) (vs.map λkv=>if kv.1=k then (kv.1,u) else kv):=by
 unfold KV at r ⊢
 induction r with
 | nil=>exact .nil
 | @cons p q ps qs h t ih =>
  rw [b8,b8]
  refine .cons ?_ ih
  obtain ⟨h1,h2⟩:=h
  by_cases e:p.1=k
  ·rw [if_pos e,if_pos (h1.symm.trans e)];exact ⟨h1,ry⟩
  ·rw [if_neg e,if_neg (λz=>e (h1.trans z))];exact ⟨h1,h2⟩
theorem KV.put {kvs:List (κ×V)}{vs:List (κ×ah)}(r:KV kvs vs) (k:κ) {y:V}{u:ah}(ry:jK y u):KV (qt kvs k y) (stored vs k u):=by
 unfold qt stored
 rw [r.any k]
 by_cases e:(vs.any λkv=>decide (kv.1=k))=true
 ·rw [if_pos e,if_pos e];exact r.repl k ry
 ·rw [if_neg e,if_neg e];exact dh r ⟨rfl,ry⟩
theorem KV.drop {kvs:List (κ×V)}{vs:List (κ×ah)}(r:KV kvs vs) (k:κ):KV (zg kvs k) (without vs k):=by
 unfold KV at r ⊢
 unfold zg without
 induction r with
 | nil=>exact .nil
 | @cons p q ps qs h t ih =>
  obtain ⟨h1,h2⟩:=h
  rw [lH,lH]
  by_cases e:p.1=k
  ·have a:¬decide (p.1≠k)=true:=by simp [e]
   have b:¬decide (q.1≠k)=true:=by simp [h1.symm.trans e]
   rw [if_neg a,if_neg b];exact ih
  ·have e':¬q.1=k:=λz=>e (h1.trans z)
   have a:decide (p.1≠k)=true:=by simp [e]
   have b:decide (q.1≠k)=true:=by simp [e']
   rw [if_pos a,if_pos b];exact .cons ⟨h1,h2⟩ ih
theorem KV.length {kvs:List (κ×V)}{vs:List (κ×ah)}(r:KV kvs vs):kvs.length=vs.length:=aX r
theorem Qr (kvs:List (κ×V)) (k:κ):(zg kvs k).length<=kvs.length:=bo _ _
end
theorem wM {P:Program}{w:aU}{k:Key}{u:ah}(r:jK (kV k) u):(jV P w).is k u=true:=by
 cases k with
 | inl i=>obtain ⟨t,e⟩:=(show ∃t,u=iD i t from r);subst e;exact QA P w i t
 | inr x=>obtain ⟨t,e⟩:=(show ∃t,u=lp x t from r);subst e;exact Qw P w x t
theorem gz {P:Program}{w:aU}:∀{ks:List Key}{us:List ah},jI (ks.map kV) us->ItemsAre (jV P w) ks us
 | [],_,r=>by rw [eU] at r;cases r;exact .nil
 | k::ks,_,r=>by
  rw [b8] at r
  cases r with
  | cons h t=>exact .cons (wM h) (gz t)
noncomputable abbrev KT (H:Hp):List (List Key×V)->List (List Key×Addr×ah)->Prop:=dJ λp q=>p.1=q.1/\H q.2.1=some (.tup (p.1.map kV))/\jK p.2 q.2.2
theorem KT.val {H:Hp}{kvs:List (List Key×V)}{xs:List (List Key×Addr×ah)}(r:KT H kvs xs) (k:List Key):yQ (qx kvs k) ((pM xs k).map (·.2)):=by
 induction r with
 | nil=>exact cH
 | @cons p q ps qs h t ih =>
  obtain ⟨h1,_,h2⟩:=h
  by_cases e:p.1=k
  ·have e':q.1=k:=h1.symm.trans e
   have b:pM (q::qs) k=some q.2:=by simp [pM,eA,e']
   rw [wY e,b];exact h2
  ·have e':¬q.1=k:=λz=>e (h1.trans z)
   have b:pM (q::qs) k=pM qs k:=by simp [pM,eA,e']
   rw [kj e,b];exact ih
theorem KT.repl {H:Hp}{kvs:List (List Key×V)}{xs:List (List Key×Addr×ah)}(r:KT H kvs xs) (k:List Key) {y:V}{u:ah}(ry:jK y u) :
  KT H (kvs.map λkv=>if kv.1=k then (kv.1,y) else kv) (xs.map (putAt k u)):=by
 induction r with
 | nil=>exact .nil
 | @cons p q ps qs h t ih =>
  rw [b8,b8]
  refine .cons ?_ ih
  obtain ⟨h1,h2,h3⟩:=h
  unfold putAt
  by_cases e:p.1=k
  ·rw [if_pos e,if_pos (h1.symm.trans e)];exact ⟨h1,h2,ry⟩
  ·rw [if_neg e,if_neg (λz=>e (h1.trans z))];exact ⟨h1,h2,h3⟩
theorem KT.put {H:Hp}{kvs:List (List Key×V)}{xs:List (List Key×Addr×ah)}(r:KT H kvs xs) (k:List Key) {b:Addr}{y:V}{u:ah}(hb:H b=some (.tup (k.map kV))) (ry:jK y u) :
  KT H (qt kvs k y) (storedH xs k b u):=by
 have e:(kvs.any λkv=>decide (kv.1=k))=(pM xs k).isSome:=by
  rw [yC,(r.val k).isSome_eq,oO]
 unfold qt storedH
 rw [e]
 by_cases q:(pM xs k).isSome=true
 ·rw [if_pos q,if_pos q];exact r.repl k ry
 ·rw [if_neg q,if_neg q];exact dh r ⟨rfl,hb,ry⟩
theorem KT.keeps {H H':Hp}{kvs:List (List Key×V)}{xs:List (List Key×Addr×ah)}(r:KT H kvs xs) (ht:∀b ys,H b=some (.tup ys)->H' b=some (.tup ys)):KT H' kvs xs :=
 Paired.mapP r λ_ _ z=>⟨z.1,ht _ _ z.2.1,z.2.2⟩
section
variable {P:Program}{w:aU}{H:Hp}{h:Heap}{a:Addr}
theorem Uz {u:HO}(ok:HOk P w H h) (e:Rd H a u):qw P w H h a u:=e.ok ok
theorem yF {kvs:List (Key×V)}(ok:HOk P w H h) (e:Rd H a (.dK kvs)):kvs.length<=sizeLine/\(a == dW)=false/\∃vs,KV kvs vs/\h.DictOf (jV P w) a vs :=
 show qw P w H h a (.dK kvs) from Uz ok e
theorem JO {kvs:List (Key×V)}(ok:HOk P w H h) (e:H a=some (.dK kvs)):kvs.length<=sizeLine/\(a == dW)=false/\∃vs,KV kvs vs/\h.DictOf (jV P w) a vs:=yF ok (.inl e)
theorem JJ {ks:List Key}(ok:HOk P w H h) (e:H a=some (.tup (ks.map kV))):(mL (jV P w)).is h ks a:=by
 obtain ⟨_,its,r,o,h1,h2,n,h3⟩:=(show qw P w H h a (.tup (ks.map kV)) from ok a _ e)
 exact ⟨o,its.toArray,n,h1,h2,h3,by simpa using gz r⟩
theorem JS {kvs:List (List Key×V)}(ok:HOk P w H h) (e:Rd H a (.dT kvs)):kvs.length<=sizeLine/\(a == dW)=false /\
  ∃xs,KT H kvs xs/\h.DictOfH (mL (jV P w)) a xs:=by
 obtain ⟨z,y,xs,r,o,es,ep,h1,h2,h3,h4,h5⟩:=(show qw P w H h a (.dT kvs) from Uz ok e)
 refine ⟨z,y,xs,r,o,es,ep,h1,h2,h3,h4,λx hx=>?_,h5⟩
 have all:∀{l:List (List Key×V)} {m:List (List Key×Addr×ah)},KT H l m->∀x∈m,(mL (jV P w)).is h x.1 x.2.1:=by
  intro l m q
  induction q with
  | nil=>intro x hx;exact nomatch hx
  | @cons p q ps qs hq t ih =>
   intro x hx
   rcases List.mem_cons.mp hx with e | hx
   ·subst e
    exact JJ ok (by rw [<- hq.1];exact hq.2.1)
   ·exact ih x hx
 exact all r x hx
theorem Gu {kvs:List (List Key×V)}(ok:HOk P w H h) (e:H a=some (.dT kvs)):kvs.length<=sizeLine/\(a == dW)=false /\
  ∃xs,KT H kvs xs/\h.DictOfH (mL (jV P w)) a xs:=JS ok (.inl e)
end
noncomputable def qr (H:Hp) (a:Addr) (y:V) (r:Option V):Prop :=
 (∃kvs k,Rd H a (.dK kvs)/\y=kV k/\r=qx kvs k)\/∃kvs k b,Rd H a (.dT kvs)/\y = .ref b/\H b=some (.tup (k.map kV))/\r=qx kvs k
noncomputable def vq (H:Hp) (a:Addr) (y v:V) (H':Hp):Prop :=
 (∃kvs k,H a=some (.dK kvs)/\y=kV k/\kvs.length<sizeLine/\H'=upd H a (.dK (qt kvs k v))) \/
 ∃kvs k b,H a=some (.dT kvs)/\y = .ref b/\H b=some (.tup (k.map kV))/\kvs.length<sizeLine/\H'=upd H a (.dT (qt kvs k v))
theorem qr.k {H:Hp}{a:Addr}{kvs:List (Key×V)}{k:Key}(e:H a=some (.dK kvs)):qr H a (kV k) (qx kvs k):=.inl ⟨kvs,k,.inl e,rfl,rfl⟩
theorem vq.k {H:Hp}{a:Addr}{kvs:List (Key×V)}{k:Key}{v:V}(e:H a=some (.dK kvs)) (hl:kvs.length<sizeLine):vq H a (kV k) v (upd H a (.dK (qt kvs k v))):=.inl ⟨kvs,k,e,rfl,hl,rfl⟩
section
variable {X:Cx}{pins:List (Addr×Obj)}{σ:St}{H:Hp}{s:Shared}{a:Addr}{y v:V}{u r:ah}{o:Option V}{A:b9}{E:ah->Shared->Prop}
theorem Inv.big (I:Inv X pins σ H s):dW<s.heap.objs.size:=by
 have h:mainGlobals<s.heap.objs.size:=(I.mod.glob.keeps I.bk).lt
 exact Nat.lt_trans ⋯ h
theorem ZS {Q:ah->Shared->Prop}(hu:A.units+1<cLine) (I:Inv X pins σ H s) (g:qr H a y (some v)) (ry:jK y u) (h:∀w' s',Inv X pins σ H s'->jK v w'->Q w' s') :
  ay (aD X.prog X.w) A (iA (.ref a) u) Q E s:=by
 rcases g with ⟨kvs,k,e,ey,l⟩ | ⟨kvs,k,b,e,ey,eb,l⟩
 ·subst ey
  obtain ⟨z,hd,vs,rel,dd⟩:=yF I.hok e
  obtain ⟨w',hw,rw'⟩:=yQ.some_of (v:=v) (o:=lU vs k) (by rw [l];exact rel.val k)
  exact wpAny_getItem_of (wM ry) dd.mapOf hw (h w' _ (I.tok _) rw')
 ·subst ey
  cases (show u=b7 b from ry)
  obtain ⟨z,hd,xs,rel,dd⟩:=JS I.hok e
  obtain ⟨w',hw,rw'⟩:=yQ.some_of (v:=v) (o:=(pM xs k).map (·.2)) (by rw [l];exact rel.val k)
  obtain ⟨p,hp,hp2⟩:=Option.map_eq_some_iff.mp hw
  refine wpAny_getItem_heap (iP hu) (JJ I.hok eb) dd hp ?_
  rw [hp2]
  exact h w' _ (I.tok _) rw'
theorem U1 {Q:ah->Shared->Prop}(hu:A.units+1<cLine) (I:Inv X pins σ H s) (g:qr H a y o) (ry:jK y u) (h:∀s',Inv X pins σ H s'->Q (.bool (!o.isSome)) s') :
  ay (aD X.prog X.w) A (cu .NotIn u (.ref a)) Q E s:=by
 rcases g with ⟨kvs,k,e,ey,l⟩ | ⟨kvs,k,b,e,ey,eb,l⟩
 ·subst ey
  obtain ⟨z,hd,vs,rel,dd⟩:=yF I.hok e
  refine wpAny_notIn_of (wM ry) hd dd.mapOf ?_
  rw [<- (rel.val k).isSome_eq,<- l]
  exact h _ (I.tok _)
 ·subst ey
  cases (show u=b7 b from ry)
  obtain ⟨z,hd,xs,rel,dd⟩:=JS I.hok e
  refine wpAny_notIn_heap (iP hu) (JJ I.hok eb) hd dd ?_
  have q:=(rel.val k).isSome_eq
  rw [oO] at q
  rw [<- q,<- l]
  exact h _ (I.tok _)
theorem vT {h':Heap}{t':Nat}{ob:HO}(I:Inv X pins σ H s) (mu:Mut (H a)) (hs:dX a s.heap h') (he:∃q,h'.get? a=some q) (new:qw X.prog X.w (upd H a ob) h' a ob) :
  Inv X pins σ (upd H a ob) { s with heap:=h',toks:=t' } :=
 I.write (x:=a) (e:=a) mu (.inl rfl) (λb q hb z=>(hs.2 b hb).trans z) he new
theorem wI {P:Program}{w:aU}{H':Hp}{h':Heap}{kvs:List (Key×V)}{vs:List (Key×ah)}(z:kvs.length<=sizeLine) (hd:(a == dW)=false) (rel:KV kvs vs) (dd:h'.DictOf (jV P w) a vs) :
  qw P w H' h' a (.dK kvs):=⟨z,hd,vs,rel,dd⟩
theorem ZP {H':Hp}{Q:Unit->Shared->Prop}(hu:A.units+1<cLine) (I:Inv X pins σ H s) (g:vq H a y v H') (ry:jK y u) (rv:jK v r) (h:∀s',Inv X pins σ H' s'->Q () s') :
  ay (aD X.prog X.w) A (setItem (.ref a) u r) Q E s:=by
 rcases g with ⟨kvs,k,e,ey,l,eH⟩ | ⟨kvs,k,b,e,ey,eb,l,eH⟩
 ·subst ey eH
  obtain ⟨z,hd,vs,rel,dd⟩:=JO I.hok e
  have hz:vs.length<=sizeLine:=by rw [<- rel.length];exact z
  have hl:(qt kvs k v).length<=sizeLine:=by have:=yT kvs k v;omega
  refine wpAny_setItem_pairs (hsz:=hz) (wM ry) dd λh' dd' hs=>h _ ?_
  have he:∃q,h'.get? a=some q:=let ⟨q,_,_,hq,_⟩:=dd';⟨q,hq⟩
  exact vT I (by rw [e];exact cH) hs he (wI hl hd (rel.put k rv) dd')
 ·subst ey eH
  cases (show u=b7 b from ry)
  obtain ⟨z,hd,xs,rel,dd⟩:=Gu I.hok e
  have hz:xs.length<=sizeLine:=by rw [<- aX rel];exact z
  have hl:(qt kvs k v).length<=sizeLine:=by have:=yT kvs k v;omega
  refine wpAny_setItem_heap (hsz:=hz) (iP hu) (JJ I.hok eb) dd λh' dd' hs=>h _ ?_
  obtain ⟨q,es,ep,hq,h2,h3,h4,_,h5⟩:=dd'
  refine vT I (by rw [e];exact cH) hs ⟨q,hq⟩ ⟨hl,hd,_,(rel.put k eb rv).keeps λc ys ec=>?_,q,es,ep,hq,h2,h3,h4,h5⟩
  rw [ja (jp ec e (λz=>nomatch z))]
  exact ec
end
section
variable {X:Cx}{pins:List (Addr×Obj)}{σ:St}{H:Hp}{s:Shared}{a:Addr}{kvs:List (Key×V)}{k:Key}{u:ah}{A:b9}{E:ah->Shared->Prop}
theorem Yx {Q:Unit->Shared->Prop}(I:Inv X pins σ H s) (e:H a=some (.dK kvs)) (ry:jK (kV k) u) (l:(qx kvs k).isSome=true) (h:∀s',Inv X pins σ (upd H a (.dK (zg kvs k))) s'->Q () s') :
  ay (aD X.prog X.w) A (delItem (.ref a) u) Q E s:=by
 obtain ⟨z,hd,vs,rel,dd⟩:=JO I.hok e
 refine wpAny_delItem_slot dd.typeIs ⋯ iU
  (call_meetsIn iU dd.typeIs PySem.F.entry_dict_delitem (PySem.F.args_dict_delitem_2 _ _) (meets_dict_delitem_pairs (jV X.prog X.w) a (wM ry)) ⟨vs,dd,by rw [<- rel.length];exact z,by rw [<- (rel.val k).isSome_eq];exact l,λh' dd' hs=>h _ ?_⟩)
 have he:∃q,h'.get? a=some q:=let ⟨q,_,_,hq,_⟩:=dd';⟨q,hq⟩
 exact vT I (by rw [e];exact cH) hs he (wI (aF (Qr kvs k) z) hd (rel.drop k) dd')
theorem WL {v:V}{more:List ah}{Q:ah->Shared->Prop}(I:Inv X pins σ H s) (e:H a=some (.dK kvs)) (ry:jK (kV k) u) (l:qx kvs k=some v) (hm:more=[]\/∃x,more=[x])
  (h:∀w' s',Inv X pins σ (upd H a (.dK (zg kvs k))) s'->jK v w'->Q w' s'):ay (aD X.prog X.w) A (call (.builtin "dict.pop") (.ref a::u::more)) Q E s:=by
 obtain ⟨z,hd,vs,rel,dd⟩:=JO I.hok e
 obtain ⟨w',hw,rw'⟩:=yQ.some_of (v:=v) (o:=lU vs k) (by rw [<- l];exact rel.val k)
 have hp:(keyPart u).isSome=true:=by
  cases k with
  | inl i=>obtain ⟨t,q⟩:=(show ∃t,u=iD i t from ry);subst q;rfl
  | inr x=>obtain ⟨t,q⟩:=(show ∃t,u=lp x t from ry);subst q;rfl
 have ha:argsOk "dict.pop" ⟨.ref a::u::more,[]⟩:=by
  rcases hm with q | ⟨x,q⟩
  ·subst q;exact PySem.F.args_dict_pop_2 _ _
  ·subst q;exact PySem.F.args_dict_pop_3 _ _ _
 refine call_meetsIn mj dd.typeIs PySem.F.entry_dict_pop ha (meets_dict_pop_there (jV X.prog X.w) a (wM ry) more hm hp)
  ⟨vs,w',dd,by rw [<- rel.length];exact z,hw,λh' dd' hs=>h w' _ ?_ rw'⟩
 have he:∃q,h'.get? a=some q:=let ⟨q,_,_,hq,_⟩:=dd';⟨q,hq⟩
 exact vT I (by rw [e];exact cH) hs he (wI (aF (Qr kvs k) z) hd (rel.drop k) dd')
end
noncomputable def Gm (i:Expr):Prop:=∀ov iv,mw i false ov iv=operate [ov,iv] (iA ov iv)
theorem VP {prog:Program}{w:aU}{A:b9}{E:ah->Shared->Prop}{s:Shared}{env:Env}{value slice:Expr}{pos:Pos}{T id:String}{Q:ah->Shared->Prop}
  (hl:rp (.type T) "__getitem__" = pure (some (.builtin id))) (hs:Gm slice)
  (h:ay (aD prog w) A (eval value env) (λo s₁=>ay (aD prog w) A (eval slice env) (λi s₂=>s₂.TypeIs o T/\ay (aD prog w) A (iA o i) Q E s₂) E s₁) E s) :
  ay (aD prog w) A (eval (.Subscript value slice pos) env) Q E s:=by
 refine lO (aW h (λo s₁ h₁=>aW h₁ (λi s₂ h₂=>?_) λ_ _ x=>x) λ_ _ x=>x)
 obtain ⟨hT,h₂⟩:=h₂
 unfold i4
 refine aa ?_
 rw [getitemInPython_of_ne hT.not_modules]
 refine aa (pS hT hl ?_)
 have fin:ay (aD prog w) A (mw slice false o i) (λr s₃=>ay (aD prog w) A (letTemporaryGo value o r >>= λ_=>pure r) Q E s₃) E s₂:=by
  rw [hs o i]
  exact wpAny_operating (aW h₂ (λr s₃ h₃=>aa (wpAny_letTemporaryGo (wpAny_pure h₃))) λ_ _ x=>x)
 first
  | exact wpAny_pure (aa fin)
  | exact aa (wpAny_pure (aa fin))
  | exact aa fin
theorem Qx {X:Cx}{pins:List (Addr×Obj)}{σ:St}{H:Hp}{s:Shared}{a:Addr}{y:V}{o:Option V}(I:Inv X pins σ H s) (g:qr H a y o):s.TypeIs (.ref a) "dict":=by
 rcases g with ⟨kvs,k,e,_,_⟩ | ⟨kvs,k,b,e,_,_,_⟩
 ·obtain ⟨_,_,vs,_,dd⟩:=yF I.hok e
  exact dd.typeIs
 ·obtain ⟨_,_,xs,_,dd⟩:=JS I.hok e
  exact dd.typeIs
noncomputable def Ux (td ty:TE):TE:=λσ H Q=>td σ H λx H1=>ty σ H1 λy H2=>∃a v,x = .ref a/\qr H2 a y (some v)/\Q v H2
noncomputable def VR (ty td:TE):TE:=λσ H Q=>ty σ H λy H1=>td σ H1 λx H2=>∃a o,x = .ref a/\qr H2 a y o/\Q (.bl (!o.isSome)) H2
noncomputable def Gq (td ty tv:TE):TS:=λD σ H=>tv σ H λv H1=>td σ H1 λx H2=>ty σ H2 λy H3=>∃a H4,x = .ref a/\vq H3 a y v H4/\D.nx σ H4
noncomputable def G9 (td ty:TE):TS:=λD σ H=>td σ H λx H1=>ty σ H1 λy H2=>∃a kvs k,x = .ref a/\H2 a=some (.dK kvs)/\y=kV k/\(qx kvs k).isSome=true/\D.nx σ (upd H2 a (.dK (zg kvs k)))
section
variable {X:Cx}{o i e value:Expr}{pos pos' tpos:Pos}{td ty tv:TE}
theorem jA (hu:X.A.units+1<cLine) (ho:PE X o td) (hi:PE X i ty) (hs:Gm i):PE X (.Subscript o i pos) (Ux td ty):=by
 intro pins s σ H Q I h
 refine VP PySem.F.slot_dict_getitem.lookup hs (thn (ho pins s σ H _ I h) λu s1 ⟨x,H1,I1,rx,q1⟩=>thn (hi pins s1 σ H1 _ I1 q1) λiv s2 ⟨y,H2,I2,ry,a,v,ex,g,q2⟩=>?_)
 subst ex
 obtain rfl:u=b7 a:=rx
 exact ⟨Qx I2 g,ZS hu I2 g ry λw' s3 I3 rw'=>⟨v,H2,I3,rw',q2⟩⟩
theorem yZ (hu:X.A.units+1<cLine) (hi:PE X i ty) (ho:PE X o td):PC X .NotIn i o (VR ty td):=by
 intro pins s σ H Q I h
 refine thn (hi pins s σ H _ I h) λiv s1 ⟨y,H1,I1,ry,q1⟩=>thn (ho pins s1 σ H1 _ I1 q1) λu s2 ⟨x,H2,I2,rx,a,ov,ex,g,q2⟩=>?_
 subst ex
 obtain rfl:u=b7 a:=rx
 exact U1 hu I2 g ry λs3 I3=>⟨.bl (!ov.isSome),H2,I3,rfl,q2⟩
theorem xf (hu:X.A.units+1<cLine) (ho:PE X o td) (hi:PE X i ty) (hv:PE X value tv) (hs:iE value (some (.Subscript o i pos')) pos.line X.env=pure false) :
  PS X (.Assign [.Subscript o i pos'] value pos) (Gq td ty tv):=by
 intro pins s σ H D I h
 refine wpAny_Assign_Subscript (thn (hv pins s σ H _ I h) λr s1 ⟨v,H1,I1,rv,q1⟩=>thn (ho pins s1 σ H1 _ I1 q1) λu s2 ⟨x,H2,I2,rx,q2⟩=>thn (hi pins s2 σ H2 _ I2 q2) λiv s3 ⟨y,H3,I3,ry,a,H4,ex,g,q3⟩=>?_) hs
 subst ex
 obtain rfl:u=b7 a:=rx
 exact ZP hu I3 g ry rv λs4 I4=>⟨σ,H4,I4,q3⟩
theorem Zc (ho:PE X o td) (hi:PE X i ty):PS X (.Delete [.Subscript o i tpos] pos) (G9 td ty):=by
 intro pins s σ H D I h
 refine wpAny_Delete (wpAny_deleteEach_cons (wpAny_delete_Subscript (thn (ho pins s σ H _ I h) λu s1 ⟨x,H1,I1,rx,q1⟩=>thn (hi pins s1 σ H1 _ I1 q1) λiv s2 ⟨y,H2,I2,ry,a,kvs,k,ex,e,ey,l,q2⟩=>?_)))
 subst ex ey
 obtain rfl:u=b7 a:=rx
 exact Yx I2 e ry l λs3 I3=>wpAny_deleteEach_nil ⟨σ,_,I3,q2⟩
end
theorem QT {P:Program}{w:aU}{H:Hp}(h:Heap) (hb:dW<h.objs.size):qw P w H (h.push { cls:=.type "dict",data:=.dict #[] }) h.objs.size (.dK []) :=
 ⟨aO _,beq_eq_false_iff_ne.mpr (cE (aB hb)),[],.nil,Heap.DictOf.new h⟩
noncomputable def Wt:TE:=λ_ H Q=>∀p,H p=none->Q (.ref p) (upd H p (.dK []))
section
variable {X:Cx}{pos:Pos}
theorem vY:PE X (.Dict [] [] pos) Wt:=λpins s σ H Q I h =>
 wpAny_Dict_empty ⟨.ref s.heap.objs.size,_,I.laid (a:=s.heap.objs.size) (o:=.dK []) (t':=s.toks) (λ_ _ q=>ak _ q) (av _) (QT s.heap I.big),rfl,h _ (I.hok.fresh (av _))⟩
end
noncomputable def XC:List (TE×TE)->St->Hp->(List (V×V)->Hp->Prop)->Prop
 | [],_,H,Q=>Q [] H
 | (tk,tv)::r,σ,H,Q=>tk σ H λx H1=>tv σ H1 λy H2=>XC r σ H2 λps H3=>Q ((x,y)::ps) H3
noncomputable abbrev VV:List (V×V)->List (ah×ah)->Prop:=dJ λp q=>jK p.1 q.1/\jK p.2 q.2
noncomputable def PPs (X:Cx) (pos:Pos) (keys:List (Option Expr)) (values:List Expr) (trs:List (TE×TE)):Prop :=
 ∀(pins:List (Addr×Obj)) (s:Shared) (σ:St) (H:Hp) (Q:List (V×V)->Hp->Prop),Inv X pins σ H s->XC trs σ H Q ->
  ay (aD X.prog X.w) X.A (evalPairs (pairTrees keys values X.env pos)) (λvs s'=>∃ps H',Inv X pins σ H' s'/\VV ps vs/\Q ps H') X.xe s
theorem VZ {X:Cx}{pos:Pos}:PPs X pos [] [] []:=λpins s σ H Q I h=>pairTrees_nil_walk ⟨[],H,I,.nil,h⟩
theorem kq {X:Cx}{pos:Pos}{k v:Expr}{ks:List (Option Expr)}{vs:List Expr}{tk tv:TE}{trs:List (TE×TE)}(hk:PE X k tk) (hv:PE X v tv) (hr:PPs X pos ks vs trs) :
  PPs X pos (some k::ks) (v::vs) ((tk,tv)::trs):=λpins s σ H Q I h =>
 pairTrees_cons_walk (thn (hk pins s σ H _ I h) λu s1 ⟨x,H1,I1,rx,q1⟩=>thn (hv pins s1 σ H1 _ I1 q1) λw2 s2 ⟨y,H2,I2,ry,q2⟩ =>
  thn (hr pins s2 σ H2 _ I2 q2) λws s3 ⟨ps,H3,I3,rel,q3⟩=>⟨(x,y)::ps,H3,I3,.cons ⟨rx,ry⟩ rel,q3⟩)
noncomputable def x4 (kvs more:List (Key×V)):List (Key×V):=more.foldl (λacc kv=>qt acc kv.1 kv.2) kvs
theorem KV.merge:∀{more:List (Key×V)}{rs:List (Key×ah)}{kvs:List (Key×V)}{vs:List (Key×ah)},KV more rs->KV kvs vs->KV (x4 kvs more) (merged vs rs):=by
 intro more rs kvs vs r
 unfold KV at r
 induction r generalizing kvs vs with
 | nil=>intro q;exact q
 | @cons p q ps qs h t ih =>
  intro r0
  have e:KV (qt kvs p.1 p.2) (stored vs q.1 q.2):=by
   have:=r0.put p.1 h.2
   rw [<- h.1];exact this
  exact ih e
theorem zW:∀(more kvs:List (Key×V)),(x4 kvs more).length<=kvs.length+more.length
 | [],kvs=>by show kvs.length<=kvs.length+0;omega
 | p::r,kvs=>by
  have h1:=zW r (qt kvs p.1 p.2)
  have h2:=yT kvs p.1 p.2
  show (x4 (qt kvs p.1 p.2) r).length<=_
  rw [bq];omega
theorem wO {P:Program}{w:aU}:∀{kvs:List (Key×V)}{ws:List (ah×ah)},VV (kvs.map λkv=>(kV kv.1,kv.2)) ws->∃rs,Carries (jV P w) ws rs/\KV kvs rs
 | [],_,r=>by rw [eU] at r;cases r;exact ⟨[],cH,.nil⟩
 | p::kvs,_,r=>by
  rw [b8] at r
  cases r with
  | @cons a b as bs h t =>
   obtain ⟨rs,c,q⟩:=wO (P:=P) (w:=w) t
   obtain ⟨b1,b2⟩:=b
   exact ⟨(p.1,b2)::rs,⟨wM h.1,rfl,c⟩,.cons ⟨rfl,h.2⟩ q⟩
noncomputable def WO (trs:List (TE×TE)):TE:=λσ H Q=>∀p,H p=none->XC trs σ (upd H p (.dK [])) λps H2=>H2 p=some (.dK [])/\∃kvs:List (Key×V),ps=kvs.map (λkv=>(kV kv.1,kv.2))/\kvs.length<=15/\Q (.ref p) (upd H2 p (.dK (x4 [] kvs)))
theorem VJ {X:Cx}{pos:Pos}{keys:List (Option Expr)}{values:List Expr}{trs:List (TE×TE)}(h:PPs X pos keys values trs) (hall:keys.all (·.isSome)=true) (hl:keys.length=values.length) (h0:keys≠[])
  (h15:keys.length<=15):PE X (.Dict keys values pos) (WO trs):=by
 intro pins s σ H Q I q
 have hn:=I.hok.fresh (av s.heap.objs.size)
 have I1:=I.laid (a:=s.heap.objs.size) (o:=.dK []) (h':=s.heap.push { cls:=.type "dict",data:=.dict #[] }) (t':=s.toks) (λ_ _ q=>ak _ q) (av _) (QT s.heap I.big)
 refine wpAny_Dict_walk (knd:=jV X.prog X.w) hall hl h0 h15 (thn (h pins _ σ _ _ I1 (q _ hn)) λws s2 ⟨ps,H2,I2,rel,e,kvs,ep,lk,q2⟩=>?_)
 subst ep
 obtain ⟨rs,c,rk⟩:=wO (P:=X.prog) (w:=X.w) rel
 obtain ⟨z,hd,vs0,r0,dd⟩:=JO I2.hok e
 cases r0
 refine ⟨rs,c,dd,λh' dd' hs=>⟨.ref s.heap.objs.size,_,?_,rfl,q2⟩⟩
 have hz:(x4 [] kvs).length<=sizeLine:=by
  have h1:=zW kvs []
  rw [pT] at h1
  rw [bF];omega
 have he:∃q,h'.get? s.heap.objs.size=some q:=let ⟨q,_,_,hq,_⟩:=dd';⟨q,hq⟩
 exact vT I2 (by rw [e];exact cH) hs he (wI hz hd (rk.merge .nil) dd')
structure M1 (X:Cx) (o:Expr) (m:Str) (apos:Pos) (e:Expr) (cpos:Pos):Prop where
 base:f7 o m X.env (eval o X.env)=eval o X.env
 few:((cT cpos (aN [e] X.env)).all (λx=>!x.1) && (mr cpos (i7 [] X.env)).all (λx=>x.1.isSome)
  && decide (([e]:List Expr).length+([]:List lM).length+(if ([]:List lM).isEmpty then 0 else 1)<30))=true
 line:(apos.endLine == cpos.line)=true
 trees:cT cpos (aN [e] X.env)=[(false,eval e X.env)]
noncomputable def IsD (H:Hp) (a:Addr):Prop:=(∃kvs,Rd H a (.dK kvs))\/∃kvs,Rd H a (.dT kvs)
theorem UU {X:Cx}{pins:List (Addr×Obj)}{σ:St}{H:Hp}{s:Shared}{a:Addr}(I:Inv X pins σ H s) (d:IsD H a) :
  s.TypeIs (.ref a) "dict" /\ (∀b,b7 a = .ref b->∃ob,s.heap.get? b=some ob/\ob.dict=none)/\(a == dW)=false:=by
 rcases d with ⟨kvs,e⟩ | ⟨kvs,e⟩
 ·obtain ⟨_,hd,vs,_,dd⟩:=yF I.hok e
  refine ⟨dd.typeIs,λb q=>?_,hd⟩
  cases q
  obtain ⟨ob,_,_,h1,h2,_⟩:=dd
  exact ⟨ob,h1,h2.2.1⟩
 ·obtain ⟨_,hd,xs,_,dd⟩:=JS I.hok e
  refine ⟨dd.typeIs,λb q=>?_,hd⟩
  cases q
  obtain ⟨ob,_,_,h1,h2,_⟩:=dd
  exact ⟨ob,h1,h2.2.1⟩
section
variable {X:Cx}{pins:List (Addr×Obj)}{σ:St}{H:Hp}{s:Shared}{a:Addr}{y d:V}{u r:ah}{o:Option V}{A:b9}{E:ah->Shared->Prop}
end
noncomputable def UZ (td ty:TE):TE:=λσ H Q=>td σ H λx H1=>∃a,x = .ref a/\IsD H1 a/\ty σ H1 λy H2=>∃kvs k v,H2 a=some (.dK kvs)/\y=kV k/\qx kvs k=some v/\Q v (upd H2 a (.dK (zg kvs k)))
section
variable {X:Cx}{o e f:Expr}{apos cpos:Pos}{td ty tx:TE}
theorem Qs (ho:PE X o td) (he:PE X e ty) (m:M1 X o "pop" apos e cpos):PE X (.Call (.Attribute o "pop" apos) [e] [] cpos) (UZ td ty):=by
 intro pins s σ H Q I h
 refine wpAny_Call_method m.base m.few m.line PySem.F.plainAttrs_dict mj PySem.F.type_dict_pop (thn (ho pins s σ H _ I h) λu s1 ⟨x,H1,I1,rx,a,ex,d,q1⟩=>?_)
 subst ex
 obtain rfl:u=b7 a:=rx
 obtain ⟨t1,t2,_⟩:=UU I1 d
 refine ⟨t1,t2,?_⟩
 rw [m.trees]
 refine lQ rfl (i9 (nK (thn (he pins s1 σ H1 _ I1 q1) λiv s2 ⟨y,H2,I2,ry,kvs,k,v,ea,ey,l,q2⟩=>ou ?_)))
 subst ey
 exact WL I2 ea ry l (.inl rfl) λw' s3 I3 rw'=>⟨v,_,I3,rw',q2⟩
end
section
variable {X:Cx}{pins:List (Addr×Obj)}{σ:St}{H:Hp}{s:Shared}{a:Addr}{kvs:List (Key×V)}{A:b9}{E:ah->Shared->Prop}
end
section
variable {X:Cx}{pins:List (Addr×Obj)}{σ:St}{H:Hp}{s:Shared}{a:Addr}{y:V}{u:ah}{A:b9}{E:ah->Shared->Prop}
end
end L2
namespace Att
open PySem PySem.W PySem.Calls PyProof.Rows
section
variable {prog:Program}{w:aU}{A:b9}{E:ah->Shared->Prop}{s:Shared}{K:Frag}
end
end Att
namespace L2
end L2
namespace L2
end L2
namespace L2
section
variable {P:Program}{w:aU}{K:ai}{mg:Str->Option ah}{base:Heap}
end
section
variable {X:Cx}
end
section
variable {κ:Type} [DecidableEq κ]
theorem uk:∀{l:List κ}{k:κ},l.Nodup->¬k∈l->(l++[k]).Nodup
 | [],k,_,_=>by simp
 | a::r,k,h,hk=>by
  obtain ⟨h1,h2⟩:=List.nodup_cons.mp h
  show (a::(r++[k])).Nodup
  refine List.nodup_cons.mpr ⟨λm=>?_,uk h2 λm=>hk (List.mem_cons.mpr (lR m))⟩
  rcases List.mem_append.mp m with q | q
  ·exact h1 q
  ·exact hk (List.mem_cons.mpr (bb (List.mem_singleton.mp q).symm))
end
end L2
end
section
namespace L2
open PySem.W
section
variable {prog:Program}{w:aU}{A:b9}{E:ah->Shared->Prop}{s:Shared}
theorem Q3 {its:List ah}{κ:rJ}{lt:Nat->Nat->Bool}{G:List Nat->Prop}{Q:ah->Shared->Prop}(h64:its.length<64)
  (hk:2<=its.length->∀h',(∀b o,s.heap.get? b=some o->h'.get? b=some o)->∀Q':rJ->Shared->Prop,Q' κ { s with heap:=h' }->ay (aD prog w) A.in1.in1 (keyKind' its.toArray) Q' (λ_ _=>False) { s with heap:=h' })
  (hc:∀h',(∀b o,s.heap.get? b=some o->h'.get? b=some o)->∀i j,i<its.length->j<its.length->∀Q':Bool->Shared->Prop,Q' (lt i j) { s with heap:=h' } ->
   ay (aD prog w) A.in1.in1 (keyLt' κ (its.getD i aS) (its.getD j aS)) Q' (λ_ _=>False) { s with heap:=h' })
  (hs:2<=its.length->qZ lt its.length (sN its.length) λp=>qu its.length p/\G p.toList) (h1:its.length<2->G (aV its.length))
  (h:∀(ix:List Nat) (h':Heap) (n:Nat),ix.Perm (aV its.length)->G ix->(∀b o,s.heap.get? b=some o->h'.get? b=some o) ->
   h'.get? (s.heap.objs.size)=some (bu "list" (ix.map λi=>its.getD i aS).toArray n)->Q (.ref (s.heap.objs.size)) { s with heap:=h' }) :
  ay (aD prog w) A.in1 (oG its >>= λl=>i0 [l] (call (.builtin "list.sort") [l] []) >>= λ_=>ret l) (λfin s'=>∃v,fin = .done (.ret v)/\Q v s') E s:=by
 refine aa (fh ?_ (by rw [bF];omega))
 have ho:(s.heap.push (bu "list" its.toArray 0)).get? (s.heap.objs.size)=some (bu "list" its.toArray 0):=aA _ rfl
 have keep:∀b o,s.heap.get? b=some o->(s.heap.push (bu "list" its.toArray 0)).get? b=some o:=λb o q=>by
  exact ak _ q
 show ay _ _ _ _ _ { s with heap:=s.heap.push (bu "list" its.toArray 0) }
 refine aa (bC (cf mB ⟨_,ho,rfl⟩ m9 ?body (rM _)))
 case body =>
  generalize hh0:s.heap.push (bu "list" its.toArray 0)=h0 at ho keep
  generalize ha:s.heap.objs.size=a at ho h
  have aNew:∀b o,s.heap.get? b=some o->b≠a:=λb o q=>by have:=aw q;rw [<- ha];exact aB this
  show ay (aD prog w) A.in1.in1 (dS.«list.sort» ⟨[.ref a],[]⟩) _ _ { s with heap:=h0 }
  rw [pN]
  have hal:a<h0.objs.size:=aw ho
  refine aa (lT ho rfl ?_)
  refine aa (cY ho rfl ?_ (by rw [ax,bF];omega) (aO _))
  obtain ⟨e1,ho1⟩:∃e1,(h0.update a (aY λ_=>(#[]:Array ah))).get? a=some (bu "list" #[] e1):=⟨_,ef ho (λ_=>#[])⟩
  refine aa (eO ho1 rfl ?_)
  refine aa (iL ?_ (by show its.length<=_;rw [bF];omega))
  refine aa (fh ?_ (aO _))
  refine bC ?_
  have ho6:(((h0.update a (aY λ_=>(#[]:Array ah))).push (bu "tuple" its.toArray 0)).push (bu "list" #[] 0)).get? a=some (bu "list" #[] e1):=by
   rw [cJ _ _ _ (by rw [nW,dP];exact aB (c5 hal)),cJ _ _ _ (by rw [dP];exact aB hal)]
   exact ho1
  have keep6:∀b o,s.heap.get? b=some o->(((h0.update a (aY λ_=>(#[]:Array ah))).push (bu "tuple" its.toArray 0)).push (bu "list" #[] 0)).get? b=some o:=λb o q =>
   ak _ (ak _ ((bZ _ _ _ _ (aNew b o q)).trans (keep b o q)))
  show ay (aD prog w) A.in1.in1 _ _ _ { s with heap:=((h0.update a (aY λ_=>(#[]:Array ah))).push (bu "tuple" its.toArray 0)).push (bu "list" #[] 0) }
  generalize ((h0.update a (aY λ_=>(#[]:Array ah))).push (bu "tuple" its.toArray 0)).push (bu "list" #[] 0)=h6 at ho6 keep6
  dsimp only
  have fin:∀(ix:List Nat),ix.Perm (aV its.length)->G ix->∀out:Array ah,out=(ix.map λi=>its.getD i aS).toArray ->
    ∃v,rO (Flow.ret aS) = .done (.ret v)/\ay (aD prog w) A.in1 (do let _ <- pure v;ret (b7 a)) (λfin s'=>∃v,fin = .done (.ret v)/\Q v s') E { s with heap:=h6.update a (aY λ_=>out) }:=λix hp hg out ho'=>by
   refine ⟨_,rfl,aa (wpAny_pure (wpAny_pure ⟨_,rfl,?_⟩))⟩
   subst ho'
   exact h ix _ _ hp hg (λb o q=>(bZ _ _ _ _ (aNew b o q)).trans (keep6 b o q)) (ef ho6 λ_=>_)
  by_cases h2:its.toArray.size<2
  ·rw [if_pos h2,if_pos h2]
   refine aa (wpAny_pure ?_)
   rw [ma]
   refine aa (wpAny_pure ?_)
   dsimp only
   refine aa (eO ho6 rfl ?_)
   rw [vZ]
   refine aa (cY ho6 rfl ?_ (aO _) (by rw [ax,bF];omega))
   simp only [bne_self_eq_false,c9,if_false]
   rw [ax] at h2
   exact wpAny_pure (fin _ (mC _) (h1 h2) _ (by rw [vO]))
  ·rw [if_neg h2,if_neg h2]
   rw [ax] at h2
   refine aa (aW (hk ∅ h6 keep6 (λκ' s'=>κ'=κ/\s'={ s with heap:=h6 }) ⟨rfl,rfl⟩) (λκ' s' q=>?_) λ_ _ x=>x.elim)
   obtain ⟨rfl,rfl⟩:=q
   refine aa (aW (kat_run (ks:=its) (vs:=its) (κ:=κ') (G:=λp s'=>(qu its.length p/\G p.toList)/\s'={ s with heap:=h6 }) (Q:=λst' s'=>∃p:Array Nat,arrOf st'=p.map (sO (its.toArray.zip its.toArray))/\rP st'=none/\(qu its.length p/\G p.toList)/\s'={ s with heap:=h6 })
    rfl ∅ h64 (λp st' s' a1 a2 a3 a4=>⟨p,a2,a3,a4⟩) (qZ.wp (I:=λs'=>s'={ s with heap:=h6 }) (λi j C s' hi hj hI hC=>?_) (λp s' hp hI=>⟨hp,hI⟩) (hs ∅) rfl)) ?_ λ_ _ e=>e)
   ·subst hI
    exact hc h6 keep6 i j hi hj C (hC _ rfl)
   ·rintro ⟨⟨⟩,st'⟩ s' ⟨p,har,hf,⟨hP,hG⟩,rfl⟩
    dsimp only
    have hout:=sP (ks:=its) (vs:=its) rfl har
    have hz:(oJ (p.toList.map λi=>its.getD i aS)).size=its.length:=by rw [ax,af,bN,hP.size]
    rw [hout]
    refine aa (eO ho6 rfl ?_)
    refine aa (cY ho6 rfl ?_ (aO _) (by rw [hz,bF];omega))
    rw [hf]
    simp only [bne_self_eq_false,c9,if_false]
    exact wpAny_pure (fin p.toList (by have:=Array.perm_iff_toList_perm.mp hP;simpa using this) hG _ rfl)
theorem Xw {v:ah}{Q:ah->Shared->Prop}(hcol:ay (aD prog w) A.in1 (collect v) (λits s1=>ay (aD prog w) A.in1 (oG its >>= λl=>i0 [l] (call (.builtin "list.sort") [l] []) >>= λ_=>ret l) (λfin s'=>∃v,fin = .done (.ret v)/\Q v s') E s1) E s) :
  ay (aD prog w) A (call (.builtin "sorted") [v]) Q E s:=by
 refine iT pK oH oI (args_sorted1 _) ?_
 unfold dS.«sorted»
 refine aa (m:=rK "sorted" 1 1 _) (wpAny_pure ?_)
 exact aa hcol
end
section
variable {X:Cx}
theorem Inv.laidN {pins:List (Addr×Obj)}{σ:St}{H:Hp}{s:Shared}{h':Heap}{a:Addr}{o:HO}{t':Nat}(I:Inv X pins σ H s) (k:∀b u,s.heap.get? b=some u->h'.get? b=some u) (hn:s.heap.get? a=none) (new:H a=none->qw X.prog X.w (upd H a o) h' a o):H a=none/\Inv X pins σ (upd H a o) { s with heap:=h',toks:=t' }:=by
 have hH:H a=none:=by
  cases q:H a with
  | none=>rfl
  | some u =>
   obtain ⟨ob,e⟩:=kC (I.hok a u q)
   rw [hn] at e
   cases e
 have ne:∀{b u},s.heap.get? b=some u->b≠a:=λe z=>by rw [z,hn] at e;cases e
 refine ⟨hH,I.un ⟨λb u q _ _ _=>k b u q,λb u q _ _ _=>⟨u.slots,k b u q⟩,λb u q n _=>by rw [ja (ne q)];exact n,λb u q _=>⟨u,k b u q⟩,λb xs q=>by rw [ja (j4 q hH)];exact q,λb u xs q=>by rw [ja (j4 q hH)];exact q,λb ps q=>⟨#[],by rw [ja (j4 q hH),q];simp⟩⟩ λb u e=>?_⟩
 by_cases hb:b=a
 ·subst hb;rw [j8] at e;cases e;exact new hH
 ·rw [ja hb] at e
  exact (I.hok b u e).stay (λc v _ q=>k c v q) (λc q=>by rw [ja (j4 q hH)];exact q) λc xs q=>by rw [ja (j4 q hH)];exact q
theorem Jc (K:ai) (hca:X.calm=true) (hK:X.K=K:=by rfl):qP X (.builtin "sorted") (λxs H Q=>∃(p:Addr) (kvs:List (Key×V)) (ns:List Int),xs=[.ref p]/\H p=some (.dK kvs)/\kvs.map (·.1)=ns.map dU/\ns.length<64 /\
  ∀(l:Addr) H' (ns':List Int),H l=none->H' l=some (.lst (ns'.map V.int))->jq H H'->ns'.Perm ns->ns'.Pairwise (· <= ·)->Q (.ref l) H'):=by
 subst hK
 intro pins s σ H xs us Q I r h
 obtain ⟨p,kvs,ns,rfl,hp0,hks,h64,k⟩:=h
 obtain ⟨u,rfl,ru⟩:=y7 r
 cases ru
 obtain ⟨hz,lo,vs,kv,dd⟩:=JO I.hok hp0
 obtain ⟨ep,hat⟩:=dd.dictAt
 have hvl:vs.length=ns.length:=by
  have e1:kvs.length=vs.length:=aX kv
  have e2:=congrArg i8 hks
  rw [af,af] at e2
  omega
 refine Xw (kdu_collect (kdl_dict (knd:=jV X.prog X.w) (kvs:=vs) (ep:=ep) lo) (I.ok.hd hca) hat (cV (jh ∅)) λh1 tk acc hk1 hacc=>?_)
 have hal:acc.toList.length=ns.length:=by rw [bN,hacc.1,hvl]
 have item:∀i,i<acc.toList.length->∃t,acc.toList.getD i aS = .int (ns.getD i 0) t:=λi hi=>by
  have hi2:i<acc.size:=by rw [bN] at hi;exact hi
  obtain ⟨key,x,hx,his⟩:=hacc.2 i acc[i] (dC hi2)
  have hi3:i<kvs.length:=by
   have e1:kvs.length=vs.length:=aX kv
   omega
  obtain ⟨q,hq,e1,_⟩:=Paired.get kv (ag hi3)
  rw [hx] at hq
  cases hq
  have e2:(kvs.map (·.1))[i]? = some key:=by rw [aq,ag hi3];exact congrArg some e1
  have hin:i<ns.length:=∅
  rw [hks,aq,ag hin] at e2
  cases e2
  obtain ⟨t,et⟩:=fG his
  refine ⟨t,?_⟩
  rw [ao,ml,dC hi2,et,ao,ag hin]
  rfl
 generalize acc.toList=its at hal item
 refine Q3 (s:={ s with heap:=h1,toks:=tk }) (κ:=oneType') (lt:=ltK VQ λi=>ns.getD i 0) (G:=λix=>(ix.map λi=>ns.getD i 0).Pairwise VQ.kle) ∅ (λh2 h' hk' Q' q=>?_) (λh' hk' i j hi hj Q' q=>?_) (λh2=>?_) (λh1=>?_) λix h' n hp hg hk' hn=>?_
 ·refine kas_kind (T:=.type "int") h2 (λv hv=>?_) rfl rfl q
  obtain ⟨i,hi,rfl⟩:=List.mem_iff_getElem.mp hv
  obtain ⟨t,e1⟩:=item i hi
  have e3:its[i] = .int (ns.getD i 0) t:=by rw [<- e1];simp [hi]
  rw [e3]
  exact si rfl
 ·obtain ⟨t,e1⟩:=item i hi
  obtain ⟨u,e2⟩:=item j hj
  rw [e1,e2]
  exact kat_lt_int q
 ·exact kH ∅ λp' hP hS=>⟨hP,hS.pairwise hP.size⟩
 ·have hcase:its.length=0\/its.length=1:=∅
  rcases hcase with z | z
  ·rw [z];exact fL
  ·rw [z];exact fB _ _
 ·have hn0:s.heap.get? h1.objs.size=none:=by
   cases q:s.heap.get? h1.objs.size with
   | none=>rfl
   | some u=>exact absurd (aw (hk1 _ _ q)) (cw _)
  have hv:jI ((ix.map λi=>ns.getD i 0).map V.int) (ix.map λi=>its.getD i aS):=by
   have hb:∀i∈ix,i<its.length:=λi hi=>by have:=hp.mem_iff.mp hi;simpa using this
   clear hp hg hn
   induction ix with
   | nil=>exact .nil
   | cons i ix ih =>
    obtain ⟨t,e⟩:=item i (hb i bh)
    exact .cons ⟨t,e⟩ (ih λj hj=>hb j (aK _ hj))
  have hns:((aV its.length).map λi=>ns.getD i 0)=ns:=by
   apply lE
   ·simp [hal]
   ·intro i h1 h2
    simp [h2]
  have hsz:((ix.map λi=>ns.getD i 0).map V.int).length<=sizeLine:=by
   rw [af,af,hp.length_eq,cq]
   exact aF (by omega:its.length<=1000) ⋯
  obtain ⟨hf,J⟩:=Inv.laidN (o:=.lst ((ix.map λi=>ns.getD i 0).map V.int)) (t':=tk) I (λb o e=>hk' b o (hk1 b o e)) hn0 λ_=>⟨hsz,_,n,hv,hn⟩
  refine ⟨.ref _,upd H h1.objs.size (.lst ((ix.map λi=>ns.getD i 0).map V.int)),J,rfl,k _ _ _ hf j8 (jq.new hf) ?_ ?_⟩
  ·have:=hp.map λi=>ns.getD i 0
   rw [hns] at this
   exact this
  ·exact List.Pairwise.imp (R:=VQ.kle) (λ{a b} z=>YN z) hg
end
end L2
end
section
namespace L2
open PySem.W
theorem Inv.freeze {X:Cx}{pins:List (Addr×Obj)}{σ:St}{H:Hp}{s:Shared}{a:Addr}{o:Obj}{kvs:List (Key×V)}(I:Inv X pins σ H s) (e:H a=some (.dK kvs)) (ho:s.heap.get? a=some o):Inv X pins σ (upd H a (.frz o (.dK kvs))) s:=by
 refine I.un (t':=s.toks) ⟨λb u q _ _ _=>q,λb u q _ _ _=>⟨u.slots,q⟩,λb u q n _=>?_,λb u q _=>⟨u,q⟩,λb xs q=>?_,λb u xs q=>?_,λb ps q=>⟨#[],?_⟩⟩ λb u q=>?_
 ·rw [ja (λz=>by rw [z,e] at n;cases n)];exact n
 ·rw [ja (jp q e (by intro z;cases z))];exact q
 ·rw [ja (jp q e (by intro z;cases z))];exact q
 ·rw [ja (jp q e (by intro z;cases z)),q];simp
 ·by_cases hb:b=a
  ·subst hb
   rw [j8] at q
   cases q
   exact ⟨ho,I.hok _ _ e⟩
  ·rw [ja hb] at q
   exact (I.hok b u q).stay (λc v _ q=>q) (λc q=>by rw [ja (jp q e (by intro z;cases z))];exact q) λc xs q=>by rw [ja (jp q e (by intro z;cases z))];exact q
noncomputable def Itd (a:Addr) (o:Obj) (kvs:List (Key×V)):It :=
 ⟨λi H=>H a=some (.frz o (.dK kvs))/\i<kvs.length,λi H x H'=>H'=H/\∃q,kvs[i]? = some q/\x=kV q.1,λi H=>H a=some (.frz o (.dK kvs))/\kvs.length<=i⟩
theorem relK {P:Program}{w:aU}{k:Key}{v:ah}(h:(jV P w).is k v=true):jK (kV k) v:=by
 cases k with
 | inl i=>exact fG h
 | inr x=>exact mU h
theorem gC {P:Program}{w:aU}{K:ai}{tg:Expr}{a it:Addr}{o:Obj}{kvs:List (Key×V)}{vs:List (Key×ah)}{ep:Nat}(kv:KV kvs vs) (HD:∀h:Heap,h.get? a=some o->h.DictAt (jV P w) a vs ep):Turn P w K tg (Itd a o kvs) [it] it (λi h=>h.IsKeyIter it a i vs.length ep) where
 mem:=by simp
 obj:=λi h st b hb=>by
  have e:b=it:=by simpa using hb
  subst e
  obtain ⟨o,e,c,d⟩:=st
  exact ⟨o,e,λv z=>by rw [d] at z;cases z⟩
 keep:=λi h h' st k=>st.at λo e=>k it (by simp) o e
 item:=by
  intro X hP hw hK hc i pins s σ H E I hf st hg
  subst hP hw hK
  obtain ⟨hq,hi⟩:=hg
  have hat:=HD s.heap (I.hok _ _ hq).1
  have hl:kvs.length=vs.length:=aX kv
  obtain ⟨f0,f1,f2,f3,f4,f5⟩:=hf it (by simp)
  obtain ⟨⟨k,x⟩,hx,ek,_⟩:=Paired.get kv (ag hi)
  refine wpAny_pyNext_dict_item st hat hx λkey h' hkey st' sb=>?_
  have I1:Inv X pins σ H { s with heap:=h' }:=I.turned (t':=s.toks) (λb o hb e=>(sb.2 b hb).trans e) f0 f1 f3 f4 f5
  obtain ⟨ob,e,c,d⟩:=id st'
  exact ⟨key,rfl,QW (s:={ s with heap:=h' }) e c d ⋯ ⟨kV k,H,I1,relK hkey,⟨rfl,_,ag hi,by rw [show (kvs[i]'hi).1=k from ek]⟩,st',λb hb=>(hf b hb).1⟩⟩
 done:=by
  intro X hP hw hK hc i pins s σ H E I hf st hg
  subst hP hw hK
  obtain ⟨hq,hi⟩:=hg
  have hat:=HD s.heap (I.hok _ _ hq).1
  have hl:kvs.length=vs.length:=aX kv
  obtain ⟨f0,f1,f2,f3,f4,f5⟩:=hf it (by simp)
  exact wpAny_pyNext_dict_end (I.ok.hd hc) st hat (by simp;omega) λh' eb=>⟨rfl,I.turned (t':=s.toks) (λb o hb e=>eb b o hb e) f0 f1 f3 f4 f5⟩
 self:=λ_ _ _ _ _ st h=>wpAny_pyIter_keyiter st h
noncomputable def iDic (td:TE):TI:=λσ H R=>td σ H λx H1=>∃a kvs,x = .ref a/\((H1 a=some (.dK kvs)/\∀o,R (Itd a o kvs) (upd H1 a (.frz o (.dK kvs))))\/∃o,H1 a=some (.frz o (.dK kvs))/\R (Itd a o kvs) H1)
theorem J9 {X:Cx}{tg l:Expr}{td:TE}(hl:PE X l td):PI X tg l (iDic td):=by
 intro pins s σ H R I h
 refine thn (hl pins s σ H _ I h) λv s1 ⟨x,H1,I1,r1,a,kvs,e,q⟩=>?_
 subst e
 cases r1
 have main:∀{H2:Hp} {o:Obj},Inv X pins σ H2 s1->H2 a=some (.frz o (.dK kvs))->R (Itd a o kvs) H2->ay (aD X.prog X.w) X.A (iZ (.ref a)) (PIE X pins σ tg R) X.xe s1:=λ{H2 o} I2 e2 q2=>by
  have ho:=(I2.hok _ _ e2).1
  obtain ⟨hz,lo,vs,kv,dd⟩:=yF I2.hok (.inr ⟨o,e2⟩)
  obtain ⟨ep,ob,es,h1,hrest⟩:=dd.dictAt
  rw [ho] at h1
  cases h1
  have HD:∀h:Heap,h.get? a=some o->h.DictAt (jV X.prog X.w) a vs ep:=λh e=>⟨o,es,e,hrest⟩
  refine oP lo (HD _ ho) ?_
  refine ⟨s1.heap.objs.size,[s1.heap.objs.size],_,_,H2,rfl,I2.kept (t':=s1.toks) λb o e=>ak _ e,gC kv HD,⟨_,aA _ rfl,rfl,rfl⟩,λb hb=>?_,q2⟩
  have e:b=s1.heap.objs.size:=by simpa using hb
  subst e
  exact I2.fpOk (av _) (I2.hok.fresh (av _))
 rcases q with ⟨e1,q1⟩ | ⟨o,e1,q1⟩
 ·obtain ⟨hz,lo,vs,kv,dd⟩:=yF I1.hok (.inl e1)
  obtain ⟨ep,ob,es,h1,hrest⟩:=dd.dictAt
  exact main (I1.freeze e1 h1) j8 (q1 ob)
 ·exact main I1 e1 q1
theorem QO {a:Addr}{o:Obj}{kvs:List (Key×V)}{g:TG}{tb:TS}{D:Ends}{σ:St}{H:Hp}(Pv:Nat->St->Hp->Prop) (h0:Pv 0 σ H) (hl:∀i σ H,i<=kvs.length->Pv i σ H->H a=some (.frz o (.dK kvs)))
  (hs:∀i q σ H,kvs[i]? = some q->Pv i σ H->g (kV q.1) σ H λσ2 H2=>tb { D with nx:=Pv (i+1),ct:=Pv (i+1),bk:=D.nx } σ2 H2) (hd:∀σ H,Pv kvs.length σ H->D.nx σ H) :
  ∃W:Nat->Nat->St->Hp->Prop,(∃m,W 0 m σ H)/\∀i m σ H,W i m σ H ->
   ((Itd a o kvs).stop i H/\D.nx σ H)\/((Itd a o kvs).go i H/\∃N:St->Hp->Prop,(∀σ' H',N σ' H'->∃m',m'<m/\W (i+1) m' σ' H')/\∀x H',(Itd a o kvs).yld i H x H'->g x σ H' λσ2 H2=>tb { D with nx:=N,ct:=N,bk:=D.nx } σ2 H2):=by
 refine ⟨λi m σ H=>m=kvs.length-i/\i<=kvs.length/\Pv i σ H,⟨kvs.length,by simp,aO _,h0⟩,?_⟩
 rintro i m σ H ⟨rfl,hi,p⟩
 have q:=hl i σ H hi p
 by_cases hlt:i<kvs.length
 ·refine .inr ⟨⟨q,hlt⟩,Pv (i+1),λσ' H' p'=>⟨kvs.length-(i+1),∅,rfl,hlt,p'⟩,λx H' y=>?_⟩
  obtain ⟨e,z,hz,ex⟩:=y
  subst e ex
  exact hs i z σ _ hz p
 ·obtain rfl:i=kvs.length:=∅
  exact .inl ⟨⟨q,av _⟩,hd σ H p⟩
theorem vf {a acc:Addr}{o:Obj}{kvs:List (Key×V)}{g:TG}{ti:TT}{te:TE}{R:Hp->Prop}{σ:St}{H:Hp}(Pv:Nat->St->Hp->Prop) (h0:Pv 0 σ H) (hl:∀i σ H,i<=kvs.length->Pv i σ H->H a=some (.frz o (.dK kvs)))
  (hs:∀i q σ H,kvs[i]? = some q->Pv i σ H->g (kV q.1) σ H λσ3 H3=>ti σ3 H3 λok H4=>if ok=true then te σ3 H4 λv H5=>∃ys,H5 acc=some (.lst ys)/\ys.length<sizeLine/\Pv (i+1) σ3 (upd H5 acc (.lst (ys++[v]))) else Pv (i+1) σ3 H4)
  (hd:∀σ H,Pv kvs.length σ H->R H) :
  ∃W:Nat->Nat->St->Hp->Prop,(∃m,W 0 m σ H)/\∀i m σ' H',W i m σ' H' ->
   ((Itd a o kvs).stop i H'/\R H')\/((Itd a o kvs).go i H'/\∃NX:St->Hp->Prop,(∀σ2 H2,NX σ2 H2->∃m',m'<m/\W (i+1) m' σ2 H2) /\
    ∀x H2,(Itd a o kvs).yld i H' x H2->g x σ' H2 λσ3 H3=>ti σ3 H3 λok H4=>if ok=true then te σ3 H4 λv H5=>∃ys,H5 acc=some (.lst ys)/\ys.length<sizeLine/\NX σ3 (upd H5 acc (.lst (ys++[v]))) else NX σ3 H4):=by
 refine ⟨λi m σ H=>m=kvs.length-i/\i<=kvs.length/\Pv i σ H,⟨kvs.length,by simp,aO _,h0⟩,?_⟩
 rintro i m σ H ⟨rfl,hi,p⟩
 have q:=hl i σ H hi p
 by_cases hlt:i<kvs.length
 ·refine .inr ⟨⟨q,hlt⟩,Pv (i+1),λσ' H' p'=>⟨kvs.length-(i+1),∅,rfl,hlt,p'⟩,λx H' y=>?_⟩
  obtain ⟨e,z,hz,ex⟩:=y
  subst e ex
  exact hs i z σ _ hz p
 ·obtain rfl:i=kvs.length:=∅
  exact .inl ⟨⟨q,av _⟩,hd σ H p⟩
end L2
end
section
namespace L2
open PySem.W
section
variable {X:Cx}{tg:Expr}
end
end L2
end
section
namespace L2
open PySem.W
noncomputable def Fz (a:Addr) (kvs:List (Key×V)) (o:Obj) (H H4:Hp):Prop:=H4 a=some (.frz o (.dK kvs))/\(H4=H\/(H a=some (.dK kvs)/\H4=upd H a (.frz o (.dK kvs))))
theorem Fz.at {a:Addr}{kvs:List (Key×V)}{o:Obj}{H H4:Hp}(f:Fz a kvs o H H4) {c:Addr}{u:HO}(h:H c=some u) (n:c≠a):H4 c=some u:=by
 rcases f.2 with rfl | ⟨_,rfl⟩
 ·exact h
 ·rw [ja n];exact h
theorem gm {a:Addr}{kvs:List (Key×V)}{g:TG}{tb:TS}{D:Ends}{σ:St}{H:Hp}(h:Rd H a (.dK kvs)) (Pv:Obj->Nat->St->Hp->Prop) (h0:∀o H4,Fz a kvs o H H4->Pv o 0 σ H4) (hl:∀o i σ H,i<=kvs.length->Pv o i σ H->H a=some (.frz o (.dK kvs)))
  (hs:∀o i q σ H,kvs[i]? = some q->Pv o i σ H->g (kV q.1) σ H λσ2 H2=>tb { D with nx:=Pv o (i+1),ct:=Pv o (i+1),bk:=D.nx } σ2 H2) (hd:∀o σ H,Pv o kvs.length σ H->D.nx σ H) :
  ∃a' kvs',V.ref a = .ref a'/\((H a'=some (.dK kvs')/\∀o,∃W:Nat->Nat->St->Hp->Prop,(∃m,W 0 m σ (upd H a' (.frz o (.dK kvs'))))/\∀i m σ H,W i m σ H ->
   ((Itd a' o kvs').stop i H/\D.nx σ H)\/((Itd a' o kvs').go i H/\∃N:St->Hp->Prop,(∀σ' H',N σ' H'->∃m',m'<m/\W (i+1) m' σ' H')/\∀x H',(Itd a' o kvs').yld i H x H'->g x σ H' λσ2 H2=>tb { D with nx:=N,ct:=N,bk:=D.nx } σ2 H2)) \/
   ∃o,H a'=some (.frz o (.dK kvs'))/\∃W:Nat->Nat->St->Hp->Prop,(∃m,W 0 m σ H)/\∀i m σ H,W i m σ H ->
   ((Itd a' o kvs').stop i H/\D.nx σ H)\/((Itd a' o kvs').go i H/\∃N:St->Hp->Prop,(∀σ' H',N σ' H'->∃m',m'<m/\W (i+1) m' σ' H')/\∀x H',(Itd a' o kvs').yld i H x H'->g x σ H' λσ2 H2=>tb { D with nx:=N,ct:=N,bk:=D.nx } σ2 H2)):=by
 rcases h with h | ⟨o,h⟩
 ·exact ⟨a,kvs,rfl,.inl ⟨h,λo=>QO (a:=a) (o:=o) (kvs:=kvs) (Pv o) (h0 o _ ⟨j8,.inr ⟨h,rfl⟩⟩) (hl o) (hs o) (hd o)⟩⟩
 ·exact ⟨a,kvs,rfl,.inr ⟨o,h,QO (a:=a) (o:=o) (kvs:=kvs) (Pv o) (h0 o _ ⟨h,.inl rfl⟩) (hl o) (hs o) (hd o)⟩⟩
end L2
end
section
namespace L2
open PySem.W
section
variable {prog:Program}{w:aU}{A:b9}{E:ah->Shared->Prop}{s:Shared}
end
section
variable {prog:Program}{w:aU}{A:b9}{R:mq->Shared->Prop}{d it l:Addr}{items:Array ah}{qs:List (Key×ah×ah)}
end
section
variable {prog:Program}{w:aU}{A:b9}{E:ah->Shared->Prop}{s:Shared}{l:Addr}{ol:Obj}{nl:Nat}{items:Array ah}{qs:List (Key×ah×ah)}
end
end L2
end
section
namespace L2
open PySem.W
theorem wN:∀(ns:List Int) (its:List ah),its.length=ns.length->(∀i,i<its.length->∃t,its[i]? = some (.int (ns.getD i 0) t))->jI (ns.map V.int) its
 | [],[],_,_=>.nil
 | n::ns,v::its,hl,h=>by
  obtain ⟨t,e⟩:=h 0 (by simp)
  have e:v = .int n t:=by simpa using e
  refine .cons ⟨t,e⟩ (wN ns its (by simpa using hl) λi hi=>?_)
  obtain ⟨t,e⟩:=h (i+1) (by simpa using hi)
  exact ⟨t,by simpa using e⟩
section
variable {X:Cx}
theorem Xc (K:ai) (hca:X.calm=true) (hK:X.K=K:=by rfl):qP X (.type "list") (λxs H Q=>∃(p:Addr) (kvs:List (Key×V)) (ns:List Int),xs=[.ref p]/\Rd H p (.dK kvs)/\kvs.map (·.1)=ns.map dU/\ns.length<=1000/\New H (.lst (ns.map V.int)) Q):=by
 subst hK
 intro pins s σ H xs us Q I r h
 obtain ⟨p,kvs,ns,rfl,hp0,hks,hl,k⟩:=h
 obtain ⟨u,rfl,ru⟩:=y7 r
 cases ru
 obtain ⟨hz,lo,vs,kv,dd⟩:=yF I.hok hp0
 obtain ⟨ep,hat⟩:=dd.dictAt
 have hvl:vs.length=ns.length:=by
  have e1:kvs.length=vs.length:=aX kv
  have e2:=congrArg i8 hks
  rw [af,af] at e2
  omega
 refine kdl_call (kdl_dict (knd:=jV X.prog X.w) (kvs:=vs) (ep:=ep) lo) (I.ok.hd hca) hat (cV (jh ∅)) λh' tk acc c' hk hD hacc=>?_
 have hal:acc.toList.length=ns.length:=by rw [bN,hacc.1,hvl]
 have item:∀i,i<acc.toList.length->∃t,acc.toList[i]? = some (.int (ns.getD i 0) t):=λi hi=>by
  have hi2:i<acc.size:=by rw [bN] at hi;exact hi
  obtain ⟨key,x,hx,his⟩:=hacc.2 i acc[i] (dC hi2)
  have hi3:i<kvs.length:=by
   have e1:kvs.length=vs.length:=aX kv
   omega
  obtain ⟨q,hq,e1,_⟩:=Paired.get kv (ag hi3)
  rw [hx] at hq
  cases hq
  have e2:(kvs.map (·.1))[i]? = some key:=by rw [aq,ag hi3];exact congrArg some e1
  have hin:i<ns.length:=∅
  rw [hks,aq,ag hin] at e2
  cases e2
  obtain ⟨t,et⟩:=fG his
  refine ⟨t,?_⟩
  rw [ml,dC hi2,et,ao,ag hin]
  rfl
 have hn0:s.heap.get? s.heap.objs.size=none:=by
  cases q:s.heap.get? s.heap.objs.size with
  | none=>rfl
  | some u=>exact absurd (aw q) (cw _)
 obtain ⟨hH,I'⟩:=I.laidN (o:=.lst (ns.map V.int)) (t':=tk) hk hn0 λ_=>⟨by rw [af];exact cV (jh hl),acc.toList,c',wN ns _ hal item,by simpa using hD⟩
 exact ⟨.ref s.heap.objs.size,_,I',rfl,k _ _ hH j8 (jq.new hH)⟩
end
end L2
end
section
namespace L2
open PySem.W
section
variable {X:Cx}
theorem vB (K:ai) (hca:X.calm=true) (hK:X.K=K:=by rfl):qP X (.type "dict") (λxs H Q=>∃(p:Addr) (kvs:List (Key×V)),xs=[.ref p]/\Rd H p (.dK kvs)/\∀(d:Addr) H',H d=none->H' d=some (.dK kvs)->jq H H'->Q (.ref d) H'):=by
 subst hK
 intro pins s σ H xs us Q I r h
 obtain ⟨p,kvs,rfl,hp0,k⟩:=h
 obtain ⟨u,rfl,ru⟩:=y7 r
 cases ru
 obtain ⟨hz,lo,vs,kv,dd⟩:=yF I.hok hp0
 have hvl:kvs.length=vs.length:=aX kv
 refine kt_call_dict (knd:=jV X.prog X.w) lo dd ∅ λh' hD hS=>?_
 have hf:=I.hok.fresh (av s.heap.objs.size)
 have keep:∀b o,s.heap.get? b=some o->h'.get? b=some o:=λb o e=>(hS.2 b (aB (aw e))).trans (ak _ e)
 exact ⟨.ref _,upd H s.heap.objs.size (.dK kvs),I.laid (t':=s.toks) keep (av _) (wI hz (beq_eq_false_iff_ne.mpr (cE (aB I.big))) kv hD),rfl,k _ _ hf j8 (jq.new hf)⟩
end
end L2
end
section
namespace L2
open PySem.W
noncomputable def WY (td:TE):TI:=λσ H R=>td σ H λx H1=>∃a kvs,x = .ref a/\Rd H1 a (.dK kvs)/\∀o H4,Fz a kvs o H1 H4->R (Itd a o kvs) H4
theorem wE {X:Cx}{tg l:Expr}{td:TE}(hl:PE X l td):PI X tg l (WY td):=by
 intro pins s σ H R I h
 refine thn (hl pins s σ H _ I h) λv s1 ⟨x,H1,I1,r1,a,kvs,e,hRd,q⟩=>?_
 subst e
 cases r1
 have main:∀{H2:Hp} {o:Obj},Inv X pins σ H2 s1->H2 a=some (.frz o (.dK kvs))->R (Itd a o kvs) H2->ay (aD X.prog X.w) X.A (iZ (.ref a)) (PIE X pins σ tg R) X.xe s1:=λ{H2 o} I2 e2 q2=>by
  have ho:=(I2.hok _ _ e2).1
  obtain ⟨hz,lo,vs,kv,dd⟩:=yF I2.hok (.inr ⟨o,e2⟩)
  obtain ⟨ep,ob,es,h1,hrest⟩:=dd.dictAt
  rw [ho] at h1
  cases h1
  have HD:∀h:Heap,h.get? a=some o->h.DictAt (jV X.prog X.w) a vs ep:=λh e=>⟨o,es,e,hrest⟩
  refine oP lo (HD _ ho) ?_
  refine ⟨s1.heap.objs.size,[s1.heap.objs.size],_,_,H2,rfl,I2.kept (t':=s1.toks) λb o e=>ak _ e,gC kv HD,⟨_,aA _ rfl,rfl,rfl⟩,λb hb=>?_,q2⟩
  have e:b=s1.heap.objs.size:=by simpa using hb
  subst e
  exact I2.fpOk (av _) (I2.hok.fresh (av _))
 rcases hRd with e1 | ⟨o,e1⟩
 ·obtain ⟨hz,lo,vs,kv,dd⟩:=yF I1.hok (.inl e1)
  obtain ⟨ep,ob,es,h1,hrest⟩:=dd.dictAt
  exact main (I1.freeze e1 h1) j8 (q ob _ ⟨j8,.inr ⟨e1,rfl⟩⟩)
 ·exact main I1 e1 (q o _ ⟨e1,.inl rfl⟩)
end L2
end
section
namespace K11
open L2
local macro_rules | `(tactic| walk_at "hp")=>`(tactic| first | assumption | exact j8 | (rw [ja (by first | assumption | (apply cE;assumption))];first | assumption | exact j8))
local macro_rules | `(tactic| walk_at "num")=>`(tactic| first | decide | omega)
local macro_rules | `(tactic| walk_at "rd1")=>`(tactic| first | refine ⟨_,rfl,?_⟩ | refine ⟨_,_,rfl,rfl,?_⟩ | refine fF (show V4 _ _ from lR ⟨by walk_at "num",by walk_at "num"⟩) ?_ | refine fF (show V4 _ _ from bb ⟨by walk_at "num",by walk_at "num"⟩) ?_ | refine fF (show Uy _ _ from ⟨by walk_at "num",by walk_at "num"⟩) ?_ | refine fF (show WW _ _ from ⟨by walk_at "num",by walk_at "num",by walk_at "num"⟩) ?_ | refine fF (show (0:Int)<_ by walk_at "num") ?_ | refine ⟨_,_,_,_,rfl,rfl,SqL.of (by walk_at "hp"),(by rfl),?_⟩ | refine ⟨_,_,_,_,rfl,rfl,SqT.of (by walk_at "hp"),(by rfl),?_⟩ | refine ⟨_,_,_,_,rfl,rfl,(by assumption),(by rfl),?_⟩ | refine ⟨_,_,_,_,rfl,rfl,(by walk_at "hp"),(by rfl),?_⟩ | refine ⟨rfl,?_⟩)
local macro_rules | `(tactic| walk_at "r")=>`(tactic| repeat walk_at "rd1")
local macro_rules | `(tactic| walk_at "s")=>`(tactic| exact ⟨rfl,rfl,rfl,by decide +kernel,rfl,by decide +kernel,by decide +kernel⟩)
local macro_rules | `(tactic| walk_at "k")=>`(tactic| decide +kernel)
local macro_rules | `(())=>`(by omega)
local macro_rules | `(∅)=>`(by decide +kernel)
local macro_rules | `(tactic| walk_at "w")=>`(tactic| (intro _ z;cases z))
local macro_rules | `(tactic| walk_at "z")=>`(tactic| (intro z;cases z))
local macro_rules | `(tactic| left)=>`(tactic| walk_at "r")
noncomputable def top (i:Nat):Stmt:=PySem.Challenge.pw_firnfall_k11_rides_by_a_year.main.body.getD i (.Pass ⟨0,0,0,0⟩)
noncomputable abbrev zN:Stmt:=top 26
noncomputable abbrev yu:Stmt:=top 27
noncomputable abbrev vN:Stmt:=top 28
noncomputable abbrev Jo:Stmt:=top 29
noncomputable abbrev qS:Stmt:=top 30
noncomputable abbrev vE:Stmt:=top 31
noncomputable abbrev wF:Stmt:=top 32
noncomputable abbrev xy:Stmt:=top 33
noncomputable abbrev vn:Stmt:=top 34
noncomputable abbrev yt:Stmt:=top 39
noncomputable abbrev yl:Stmt:=top 40
noncomputable abbrev yk:Stmt:=top 45
noncomputable abbrev zT:Stmt:=top 46
noncomputable abbrev zQ:Stmt:=top 47
noncomputable abbrev qJ:Stmt:=(zL (top 48) 0)
noncomputable abbrev xv:Stmt:=(zL (top 48) 4)
noncomputable abbrev yO:Stmt:=(zL (top 48) 8)
noncomputable abbrev yc:Stmt:=(zL (top 48) 9)
noncomputable abbrev yr:Stmt:=(zL (top 48) 10)
noncomputable abbrev yN:Stmt:=(zL (top 48) 11)
noncomputable abbrev yX:Stmt:=(zL (top 48) 12)
noncomputable abbrev xP:Stmt:=(zL (top 48) 14)
noncomputable abbrev vd:Stmt:=top 50
noncomputable abbrev ki:Stmt:=top 51
noncomputable abbrev ux:Stmt:=top 53
noncomputable abbrev yD:Stmt:=top 54
noncomputable abbrev vP:Stmt:=top 55
noncomputable abbrev yI:Stmt:=top 56
noncomputable abbrev xW:Stmt:=top 57
noncomputable abbrev uC:Stmt:=top 58
noncomputable abbrev uH:Stmt:=top 59
noncomputable abbrev zV:Stmt:=top 60
noncomputable abbrev zI:Stmt:=top 61
noncomputable abbrev qv:Stmt:=top 62
noncomputable abbrev x9:Stmt:=top 63
noncomputable abbrev xT:Stmt:=top 64
noncomputable abbrev yp:Stmt:=top 65
noncomputable abbrev vD:Stmt:=top 66
noncomputable abbrev xR:Stmt:=top 67
noncomputable abbrev vC:Stmt:=top 68
noncomputable abbrev yf:Stmt:=top 69
noncomputable abbrev vH:Stmt:=top 70
noncomputable abbrev qN:Stmt:=top 71
noncomputable abbrev zn:Stmt:=top 72
noncomputable abbrev zd:Stmt:=top 73
noncomputable abbrev zD:Stmt:=top 74
noncomputable abbrev zr:Stmt:=top 75
noncomputable abbrev xj:Stmt:=top 76
noncomputable abbrev qH:Stmt:=top 77
noncomputable abbrev xM:Stmt:=top 78
noncomputable abbrev qY:Stmt:=top 79
noncomputable abbrev zt:Stmt:=top 80
noncomputable abbrev yh:Stmt:=top 81
noncomputable abbrev zC:Stmt:=top 82
noncomputable abbrev zq:Stmt:=top 83
noncomputable abbrev vv:Stmt:=top 84
section
variable {P:Program}{w:aU}{K:ai}{mg:Str->Option ah}{base:Heap}
noncomputable abbrev Wc:Pos:=⟨69,28,69,49⟩
noncomputable abbrev qI (H:Hp) (Pt:Addr):Prop:=Tab H Pt Wc (("lanes" : Str) ++ ".<locals>." ++ "<lambda>")
noncomputable def Zj:Sp:=λvs H Q _=>∃(i:Nat) (t:Int),vs=[.int i,.int t]/\Q (.bl (xH i t)) H
theorem JX:FnScope ["number","to"] ["number","to"] (j9 vN):=by walk_at "s"
theorem QR {f:Addr}{fd:FuncData}(F:Fun K "leads_on" "leads_on" vN f fd):FnOk P w K mg base CX0 1 f fd ["number","to"] Zj:=by
 refine F.ok JX (λvs H Q E h=>?_) (λcdv A outer s H vs Q E hr h=>?_)
 ·obtain ⟨i,t,rfl,_⟩:=h
  rfl
 ·obtain ⟨i,t,rfl,k⟩:=h
  refine ⟨_,(j7 (jB (jn qh (pv 0) j6 (jt _)) (jb (jj (zj qh (pv 1) (Zs Jz j6) (jt _)))) jr)
   (jb (jj (xr jS wc j6 (pv 1) (pv 0))))),?_⟩
  have fin:∀b:Bool,b=xH i t->Q (.bl b) H:=λb e=>by rw [e];exact k
  left
  refine qo (λh1=>?_) (λh1=>?_)
  ·left
   have h1':i=0:=by have:=V.int.inj h1;omega
   refine fin _ ?_
   unfold xH
   rw [if_pos h1']
   exact decide_eq_decide.mpr ⟨λz=>V.int.inj z,λz=>by rw [z]⟩
  ·have h1':i≠0:=λz=>h1 (by rw [z];rfl)
   left
   refine qo (λh2=>?_) (λh2=>?_)
   ·left
    refine fin _ ?_
    unfold xH
    rw [if_neg h1']
    exact decide_eq_decide.mpr ⟨λz=>⟨h2,z⟩,λz=>z.2⟩
   ·refine fin _ ?_
    unfold xH
    rw [if_neg h1',decide_eq_false (λz=>h2 z.1)]
noncomputable def ZG:Sp:=λvs H Q _=>∃(i:Nat) (v:V) (r:Rch),vs=[.int i,v]/\JK H v r/\r.2.length<=100/\∀H',jq H H'->Q (.bl (okR i r)) H'
theorem yW:FnScope ["number","reach","to","slope"] ["number","reach"] (j9 yu):=by walk_at "s"
theorem Qq {f:Addr}{fd:FuncData}{u0 u1:Tok}(nb:Nb2 mg) (g_MOST_HEIGHTS:mg "MOST_HEIGHTS" = some (.int 12 u0)) (g_GREATEST_HEIGHT:mg "GREATEST_HEIGHT" = some (.int 99 u1)) (c_leads_on:Cal P w K mg base 1 "leads_on" ["number","to"] Zj) (F:Fun K "is_reach" "is_reach" yu f fd):FnOk P w K mg base CX0 2 f fd ["number","reach"] ZG:=by
 refine F.ok yW (λvs H Q E h=>?_) (λcdv A outer s H vs Q E hr h=>?_)
 ·obtain ⟨i,v,r,rfl,_⟩:=h
  rfl
 ·obtain ⟨i,v,⟨t,hs⟩,rfl,⟨p,g,rfl,hp,hg⟩,h100,k⟩:=h
  have h100':hs.length<=100:=h100
  have fin:∀(b:Bool) (H':Hp),jq H H'->b=okR i (t,hs)->Q (.bl b) H':=λb H' sm e=>by rw [e];exact k H' sm
  refine ⟨_,(j7 (yB (pv 1) (xB (n:=2) K rfl (jE (ji (i:=2) yW.nd rfl (bb rfl)) (jE (ji (i:=3) yW.nd rfl (bb rfl)) qV))))
   (j7 (jB (PW.pt (kB (qy (xC (je c_leads_on (hr.mono ⋯) rfl (j2 (pv 0) (j2 (pv 2) j5))))) (uB (qy (qC jS jS j6 (jd (jg K) rfl nb.b_len aR (j2 (pv 3) j5)) (jF (v:=V.int 12) rfl g_MOST_HEIGHTS ⟨_,rfl⟩)))))) (jb (jj wb)) jr)
   (jb (jj (jd (zk K rfl) rfl nb.b_all mJ (j2 (jW (osc:=(j9 yu)) (ON:=["number","reach","to","slope"]) (N:=["height"]) (own:=1) (caps:=[]) ⟨rfl,∅,∅,∅,rfl,∅⟩ rfl rfl rfl (vW K (pv 3)) (λ_ _ _ _ _=>(ji (i:=0) (show aZ (["height"]:List Str) by decide +kernel) rfl (bb rfl))) (λ_ _ _ _ _=>jH) (λ_ _ _ _ _=>(xr jS jS j6 (pv 0) (jF (v:=V.int 99) rfl g_GREATEST_HEIGHT ⟨_,rfl⟩)))) j5)))))),?_⟩
  left
  refine ⟨p,_,rfl,SqT.of hp,rfl,?_⟩
  refine ⟨_,_,rfl,_,_,rfl,rfl,?_⟩
  left
  refine ⟨i,t,rfl,?_⟩
  left
  cases hl:xH i t with
  | false =>
   refine zF ?_
   left
   exact fin _ H (jq.refl H) (by unfold okR;rw [hl];rfl)
  | true =>
   refine wU ?_
   left
   refine ⟨_,_,rfl,.inr (SqT.of hg),?_⟩
   left
   rw [af]
   refine qo (λh1=>?_) (λh1=>?_)
   ·left
    refine xb (λh2=>?_) (λh2=>?_)
    ·left
     exact fin _ H (jq.refl H) (by unfold okR;rw [hl,decide_eq_false (λz=>h2 z.2)];rfl)
    ·left
     refine ⟨⟨_,SqT.of hg⟩,λacc hacc=>?_⟩
     refine QP (K:=K) (a:=g) (xs:=hs.map V.int) (acc:=acc) (λj σ H2=>∃x:Option V,σ=[x]/\H2 acc=some (.lst (((hs.take j).map λx=>decide (0<=x/\x<=99)).map V.bl))/\Ext acc H H2) ?_ ?_ ?_ ?_
     ·exact ⟨none,rfl,j8,Ext.put⟩
     ·rintro j σ H2 hj ⟨x,rfl,h3,e3⟩
      exact SqT.of (e3 _ _ hg (j4 hg hacc))
     ·rintro j v σ H2 hv ⟨x,rfl,h3,e3⟩
      obtain ⟨z,rfl⟩:=yP hv
      have hz:hs[j]? = some z:=by
       rw [aq] at hv
       cases e:hs[j]? with
       | none=>rw [e] at hv;cases hv
       | some y=>rw [e] at hv;cases hv;rfl
      have hj:j<hs.length:=(List.getElem?_eq_some_iff.mp hz).1
      have done:∀b:Bool,b=decide (0<=z/\z<=99)->∃ys,H2 acc=some (.lst ys)/\ys.length<sizeLine/\∃x:Option V,[some (V.int z)]=[x]/\upd H2 acc (.lst (ys++[V.bl b])) acc=some (.lst (((hs.take (j+1)).map λx=>decide (0<=x/\x<=99)).map V.bl))/\Ext acc H (upd H2 acc (.lst (ys++[V.bl b]))):=λb e=>by
       refine ⟨_,h3,by rw [af,af,aT];exact jh (),_,rfl,?_,e3.trans Ext.put⟩
       rw [j8,qE (λx=>decide (0<=x/\x<=99)) hs j z hz,aC,e]
       rfl
      left
      refine qo (λh4=>?_) (λh4=>?_)
      ·left
       exact done _ (decide_eq_decide.mpr ⟨λy=>⟨h4,y⟩,λy=>y.2⟩)
      ·exact done _ (decide_eq_false λy=>h4 y.1).symm
     ·rintro σ H2 ⟨x,rfl,h3,e3⟩
      rw [af,br] at h3
      refine ⟨acc,_,rfl,SqL.of h3,?_⟩
      refine fin _ H2 (λc o hc=>e3 c o hc (j4 hc hacc)) ?_
      unfold okR
      rw [hl,decide_eq_true (show (1<=(hs.length:Int)/\(hs.length:Int)<=12) from ⟨h1,h2⟩),eV]
      rfl
   ·refine ⟨_,rfl,zF ?_⟩
    left
    exact fin _ H (jq.refl H) (by unfold okR;rw [hl,decide_eq_false (λz=>h1 z.1)];rfl)
noncomputable def gX (K:ai):Sp:=λvs H Q _=>∃(p:Addr) (xs:List V) (rs:List Rch) (h:Nat),vs=[.ref p,.int h]/\H p=some (.lst xs)/\qe H xs rs/\xi rs/\h<rs.length/\rs.length<=100/\∀t H',H t=none->H' t=some (.tup ((qA rs h).map V.int))->jq H H'->Q (.ref t) H'
theorem zM:FnScope ["reaches","head","way","reach"] ["reaches","head"] (j9 vE):=by walk_at "s"
theorem Qm {f:Addr}{fd:FuncData}(nb:Nb2 mg) (F:Fun K "way_down" "way_down" vE f fd):FnOk P w K mg base CX0 1 f fd ["reaches","head"] (gX K):=by
 refine F.ok zM (λvs H Q E h=>?_) (λcdv A outer s H vs Q E hr h=>?_)
 ·obtain ⟨p,xs,rs,h,rfl,_⟩:=h
  rfl
 ·obtain ⟨p,xs,rs,h,rfl,hp,hrw,L,hh,h100,k⟩:=h
  refine ⟨_,(j7 (ju 2 zM.nd (jz j5))
   (j7 (ju 3 zM.nd (pv 1))
   (j7 (Qv bG (jn Uv (pv 3) j6 (jt _)) (j7 (qi (vI K c7 bX bY qM (pv 2) (j2 (pv 3) j5)))
   (jb (ju 3 zM.nd (jk (jx K) (jk (jf K) (pv 0) (pv 3) (λ_ _=>rfl)) j6 (λ_ _=>rfl))))))
   (jb (jj (jL (qQ K) rfl nb.b_tuple c8 (j2 (pv 2) j5))))))),?_⟩
  left
  refine ⟨aO _,λwy H1 hwy hwy1 s1=>?_⟩
  left
  have hlen:=hrw.length
  refine Qf (λσ H2=>∃(pre:List Int) (r:Int),σ=[some (.ref p),some (.int h),some (.ref wy),some (.int r)]/\H2 wy=some (.lst (pre.map V.int))/\Ext wy H1 H2 /\ -1<=r/\r<rs.length/\pre.length+(r+1).toNat<=100/\pre++(if r<0 then [] else qA rs r.toNat)=qA rs h) (λσ H2=>match σ with | [_,_,_,some (.int r)]=>(r+1).toNat | _=>0) ?_ ?_ ?_
  ·refine ⟨[],h,rfl,hwy1,Ext.refl,(),(),by simp;omega,?_⟩
   rw [if_neg ()]
   rfl
  ·rintro σ H2 ⟨pre,r,rfl,hw2,e2,r0,r1,rl,heq⟩
   left
   refine qo (λhr0=>?_) (λhr0=>?_)
   ·have hp2:H2 p=some (.lst xs):=e2 _ _ (s1 _ _ hp) (j4 hp hwy)
    have hrw2:qe H2 xs rs:=hrw.keep ((jy.same s1).trans (jy.lst e2 hwy1))
    have hi:r.toNat<rs.length:=()
    obtain ⟨v,hv,q,g,rfl,hq,hg⟩:=hrw2.at (ag hi)
    have ht:=L.lt hi
    have ht2:=(kE (L _ hi)).2.1
    have et:=JF (ag hi)
    rw [et] at ht ht2
    generalize (rs[r.toNat]'hi).1=tt at ht ht2 et hq
    left
    refine ⟨.inl ⟨rfl,_,SqL.of hw2⟩,?_⟩
    left
    refine ⟨wy,_,_,rfl,rfl,hw2,by rw [af];exact jh (),?_⟩
    have hne:q≠wy:=jp hq hw2 (by walk_at "z")
    have hp3:upd H2 wy (.lst (pre.map V.int++[.int r])) p=some (.lst xs):=by rw [ja (j4 hp hwy)];exact hp2
    have hq3:upd H2 wy (.lst (pre.map V.int++[.int r])) q=some (.tup [.int tt,.ref g]):=by rw [ja hne];exact hq
    left
    refine ⟨_,_,_,_,rfl,rfl,SqL.of hp3,qG hr0 hv,?_⟩
    refine ⟨_,_,_,_,rfl,rfl,SqT.of hq3,rfl,?_⟩
    refine ⟨⟨pre++[r],tt,rfl,?_,e2.trans Ext.put,(),(),?_,?_⟩,?_⟩
    ·rw [j8,aC];rfl
    ·rw [az,bf];omega
    ·rw [<- heq,if_neg (show ¬r<0 by omega),zG L hi,et,fP]
     congr 1
     show r::_=_
     congr 1
     omega
    ·show (tt+1).toNat<(r+1).toNat
     omega
   ·rw [if_pos (),aP] at heq
    subst heq
    left
    refine ⟨wy,_,rfl,SqL.of hw2,λt H3 ht ht3 s3=>?_⟩
    exact k t H3 (s1.free (e2.free ht (λz=>by rw [z,hw2] at ht;cases ht))) ht3 (λc o hc=>s3 _ _ (e2 _ _ (s1 _ _ hc) (j4 hc hwy)))
  ·intro σ H2 Q1 Q2 hQ h
   obtain ⟨v,e,r⟩:=h
   obtain ⟨i,j,e1,e2,kk,e3,r⟩:=r
   exact ⟨v,e,i,j,e1,e2,kk,e3,hQ _ _ r⟩
noncomputable def Zm (K:ai):Sp:=λvs H Q _=>∃(p a:Addr) (xs:List V) (rs:List Rch) (way:List Int),vs=[.ref p,.ref a]/\H p=some (.lst xs)/\qe H xs rs/\(∀r∈rs,r.2.length<=100)/\H a=some (.tup (way.map V.int))/\(∀r∈way,0<=r/\r<rs.length)/\way.length<=100/\∀H',jq H H'->Q (.int (jG rs way)) H'
theorem wg:FnScope ["reaches","way"] ["reaches","way"] (j9 xy):=by walk_at "s"
theorem wk {f:Addr}{fd:FuncData}(nb:Nb2 mg) (F:Fun K "count_places" "count_places" xy f fd):FnOk P w K mg base CX0 1 f fd ["reaches","way"] (Zm K):=by
 refine F.ok wg (λvs H Q E h=>?_) (λcdv A outer s H vs Q E hr h=>?_)
 ·obtain ⟨p,a,xs,rs,way,rfl,_⟩:=h
  rfl
 ·obtain ⟨p,a,xs,rs,way,rfl,hp,hrw,h100,ha,hin,hwl,k⟩:=h
  have hlen:=hrw.length
  refine ⟨_,(jb (jj (jd (wW K rfl) rfl nb.b_sum sR (j2 (jW (osc:=(j9 xy)) (ON:=["reaches","way"]) (N:=["reach","reaches"]) (own:=1) (caps:=[0]) ⟨rfl,∅,∅,∅,rfl,∅⟩ rfl rfl rfl (vW K (pv 1)) (λ_ _ _ _ _=>(ji (i:=0) (show aZ (["reach","reaches"]:List Str) by decide +kernel) rfl (bb rfl))) (λ_ _ _ _ _=>jH) (λ_ _ _ _ _=>(jd (jg K) rfl nb.b_len aR (j2 (jk (jx K) (jk (jf K) (pv 1) (pv 0) (λ_ _=>rfl)) j6 (λ_ _=>rfl)) j5)))) j5)))),?_⟩
  left
  refine ⟨⟨_,SqT.of ha⟩,λacc hacc=>?_⟩
  refine QP (K:=K) (a:=a) (xs:=way.map V.int) (acc:=acc) (λj σ H2=>∃x:Option V,σ=[x,some (.ref p)]/\H2 acc=some (.lst (((way.take j).map λr=>((zX rs r.toNat).length:Int)).map V.int))/\Ext acc H H2) ?_ ?_ ?_ ?_
  ·exact ⟨none,rfl,j8,Ext.put⟩
  ·rintro j σ H2 hj ⟨x,rfl,h3,e3⟩
   exact SqT.of (e3 _ _ ha (j4 ha hacc))
  ·rintro j v σ H2 hv ⟨x,rfl,h3,e3⟩
   obtain ⟨r,rfl⟩:=yP hv
   have hz:way[j]? = some r:=by
    rw [aq] at hv
    cases e:way[j]? with
    | none=>rw [e] at hv;cases hv
    | some y=>rw [e] at hv;cases hv;rfl
   have hj:j<way.length:=(List.getElem?_eq_some_iff.mp hz).1
   have hr:=hin r (au hz)
   have hi:r.toNat<rs.length:=()
   obtain ⟨v,hv',q,g,rfl,hq,hg⟩:=(hrw.keep (jy.new e3 hacc)).at (ag hi)
   left
   refine ⟨_,_,_,_,rfl,rfl,SqL.of (e3 _ _ hp (j4 hp hacc)),qG hr.1 hv',?_⟩
   refine ⟨_,_,_,_,rfl,rfl,SqT.of hq,rfl,?_⟩
   refine ⟨_,_,rfl,.inr (SqT.of hg),?_⟩
   refine ⟨_,h3,by rw [af,af,aT];exact jh (),_,rfl,?_,e3.trans Ext.put⟩
   rw [j8,qE (λr:Int=>((zX rs r.toNat).length:Int)) way j r hz,aC,JM (ag hi),af]
   rfl
  ·rintro σ H2 ⟨x,rfl,h3,e3⟩
   rw [af,br] at h3
   refine ⟨acc,_,rfl,SqL.of h3,by rw [af];omega,λn hn=>?_,?_⟩
   ·obtain ⟨r,hr,rfl⟩:=List.mem_map.mp hn
    have hb:=hin r hr
    have hi:r.toNat<rs.length:=()
    have:=h100 _ (bW hi)
    rw [JM (ag hi)]
    omega
   ·exact k H2 λc o hc=>e3 c o hc (j4 hc hacc)
noncomputable def vV (K:ai) (Pt:Addr):Sp:=λvs H Q _=>∃(p:Addr) (xs:List V) (rs:List Rch),vs=[.ref p]/\H p=some (.lst xs)/\qe H xs rs/\xi rs/\rs.length<=60/\qI H Pt/\∀l H' out ws,H l=none->H' l=some (.lst out)->y8 H' out ws->qj rs ws->Ext Pt H H'->qI H' Pt->Q (.ref l) H'
theorem wH:FnScope ["reaches","entered","ways"] ["reaches"] (j9 qS):=by walk_at "s"
theorem QE {α:Type}(l:List α) (d:α):((aV l.length).map λi=>l.getD i d)=l:=by
 apply lE
 ·simp
 ·intro i h1 h2
  simp [h2]
theorem J7 {H:Hp}{vs:List V}{ws:List (List Int)}(h:y8 H vs ws):∀ix:List Nat,(∀i∈ix,i<vs.length)->y8 H (ix.map λi=>vs.getD i V.non) (ix.map λi=>ws.getD i [])
 | [],_=>.nil
 | i::ix,hb=>by
  refine .cons ?_ (J7 h ix λj hj=>hb j (aK _ hj))
  have hi:=hb i bh
  obtain ⟨y,e2,a,e3,e4⟩:=Paired.get h (ag hi)
  refine ⟨a,?_,?_⟩
  ·show vs.getD i V.non=V.ref a
   rw [ao,ag hi];exact e3
  ·show H a=some (.tup ((ws.getD i []).map V.int))
   rw [ao,e2];exact e4
theorem Ju {rs:List Rch}{roads:List (List Int)}{vs out:List V}{H H':Hp}(hr:roads=(jw rs).map (qA rs)) (hv:y8 H vs roads) (k:jy H H') (hs:uj wq (λi=>(roads.getD i []).reverse) vs out):∃ws,y8 H' out ws/\qj rs ws:=by
 obtain ⟨ix,hp,e,hpw⟩:=hs
 have hb:∀i∈ix,i<vs.length:=λi hi=>by have:=hp.mem_iff.mp hi;simpa using this
 refine ⟨ix.map λi=>roads.getD i [],by rw [e];exact (J7 hv ix hb).keep k,?_,?_⟩
 ·have:=hp.map λi=>roads.getD i []
  rw [hv.length,QE] at this
  rw [<- hr]
  exact this
 ·rw [bO]
  exact hpw
theorem Vi {f c Pt:Addr}{oc:ah}{od an:Option Addr}{osl:Array (Option ah)}{kV doc pm ct:ah}(nb:Nb2 mg) (c_way_down:Cal P w K mg base 1 "way_down" ["reaches","head"] (gX K)) (CH:PySem.W.CodeHd base c Pt) (hBm:Bm mg base)
  (l:K.lookup f=some ⟨oc,od,.func (bD "lanes" "lanes" (jY qS) (jO qS) (j9 qS) .none kV doc pm an (.ref c) ct),osl⟩) (cd:cz K (.ref c) "lanes" = true) :
  FnOk P w K mg base CX0 5 f (bD "lanes" "lanes" (jY qS) (jO qS) (j9 qS) .none kV doc pm an (.ref c) ct) ["reaches"] (vV K Pt):=by
 refine Fun.okC l cd wH (λvs H Q E h=>?_) (λA outer s H vs Q E hr h=>?_)
 ·obtain ⟨p,xs,rs,rfl,_⟩:=h
  rfl
 ·obtain ⟨p,xs,rs,rfl,hp,hrw,L,h60,hT,k⟩:=h
  have hlen:=hrw.length
  refine ⟨_,(j7 (uO (i:=1) wH.nd rfl (lR rfl) (jW (osc:=(j9 qS)) (ON:=["reaches","entered","ways"]) (N:=["to","slope"]) (own:=2) (caps:=[]) ⟨rfl,∅,∅,∅,rfl,∅⟩ rfl rfl rfl (qm K (pv 0)) (λ_ _ _ _ _=>(xB (n:=2) K rfl (jE (ji (i:=0) (show aZ (["to","slope"]:List Str) by decide +kernel) rfl (bb rfl)) (jE (ji (i:=1) (show aZ (["to","slope"]:List Str) by decide +kernel) rfl (bb rfl)) qV)))) (λ_ _ _ _ _=>jH) (λ_ _ _ _ _=>(pv 0))))
   (j7 (ww (j:=2) (osc:=(j9 qS)) (ON:=["reaches","entered","ways"]) (N:=["head","reaches","entered"]) (own:=1) (caps:=[0,1]) ⟨rfl,∅,∅,∅,rfl,∅⟩ wH.nd rfl (bb rfl) rfl rfl rfl (qL rfl nb.b_range (j2 (jd (jg K) rfl nb.b_len aR (j2 (pv 0) j5)) j5)) (λ_ _ _ _ _=>(ji (i:=0) (show aZ (["head","reaches","entered"]:List Str) by decide +kernel) rfl (bb rfl))) (λ_ _ _ _ _=>(y6 (jn (zY K) (pv 0) (pv 2) (by with_unfolding_all rfl)))) (λ_ _ _ _ _=>(je c_way_down (hr.mono ⋯) rfl (j2 (pv 1) (j2 (pv 0) j5)))))
   (jb (jj (Xu (N:=["way"]) (x:="way") (k:=0) rfl nb.b_sorted (j2 (pv 2) j5) rfl CH hBm (hr.mono ⋯) (by walk_at "s") (λ_ _ _ _=>rfl) (λ_ _ _ _=>(Ud K (pv 0)))))))),?_⟩
  left
  refine ⟨⟨_,SqL.of hp⟩,λen hen=>?_⟩
  refine qc (K:=K) (a:=p) (xs:=xs) (acc:=en) (λj σ H2=>∃x y:Option V,σ=[x,y]/\H2 en=some (.lst (((rs.take j).map (·.1)).map V.int))/\Ext en H H2) ?_ ?_ ?_ ?_
  ·exact ⟨none,none,rfl,j8,Ext.put⟩
  ·rintro j σ H2 hj ⟨x,y,rfl,h3,e3⟩
   exact SqL.of (e3 _ _ hp (j4 hp hen))
  ·rintro j v σ H2 hv ⟨x,y,rfl,h3,e3⟩
   obtain ⟨r,hr,q,g,rfl,hq,hg⟩:=(hrw.keep (jy.new e3 hen)).get hv
   have hj:j<rs.length:=(List.getElem?_eq_some_iff.mp hr).1
   left
   refine ⟨q,_,rfl,SqT.of hq,rfl,?_⟩
   refine ⟨_,_,rfl,_,_,rfl,rfl,?_⟩
   left
   refine ⟨_,h3,by rw [af,af,aT];exact jh (),_,_,rfl,?_,e3.trans Ext.put⟩
   rw [j8,qE (λr:Rch=>r.1) rs j r hr,aC]
   rfl
  ·rintro σ H2 ⟨x,y,rfl,h3,e3⟩
   rw [hlen,br] at h3
   have hp2:=e3 _ _ hp (j4 hp hen)
   have hrw2:qe H2 xs rs:=hrw.keep (jy.new e3 hen)
   have hT2:qI H2 Pt:=hT.extN hen e3
   left
   refine ⟨_,_,rfl,.inl (SqL.of hp2),?_⟩
   refine ⟨_,rfl,(),(),λwy hwy=>?_⟩
   rw [hlen]
   refine xD (lo:=0) (n:=((rs.length:Nat):Int).toNat) (acc:=wy) (λj σ H3=>∃(x:Option V) (vs:List V),σ=[x,some (.ref p),some (.ref en)]/\H3 wy=some (.lst vs)/\y8 H3 vs (((aV j).filter (jU rs)).map (qA rs))/\Ext wy H2 H3/\vs.length<=j) ?_ ?_ ?_
   ·exact ⟨none,[],rfl,j8,.nil,Ext.put,av _⟩
   ·rintro j σ H3 hj ⟨x,vs,rfl,h4,w4,e4,l4⟩
    have hj':j<rs.length:=()
    have hen4:=e4 _ _ h3 (j4 h3 hwy)
    have hp4:=e4 _ _ hp2 (j4 hp2 hwy)
    have hrw4:qe H3 xs rs:=hrw2.keep (jy.new e4 hwy)
    have er:(aV (j+1)).filter (jU rs)=(aV j).filter (jU rs)++(if jU rs j=true then [j] else []):=by
     rw [ez,cc]
     congr 1
     by_cases z:jU rs j=true
     ·rw [if_pos z];simp [z]
     ·rw [if_neg z];simp [z]
    left
    refine ⟨en,_,rfl,.inl (SqL.of hen4),rfl,vc _,?_⟩
    left
    rw [lV,ue]
    refine xb (λhin=>?_) (λhin=>?_)
    ·have hb:jU rs j=true:=by unfold jU;rw [decide_eq_false (show ¬(j:Int)∈tos rs from hin)];rfl
     left
     refine ⟨p,xs,rs,j,rfl,hp4,hrw4,L,hj',(),λt H5 ht ht5 s5=>?_⟩
     have nt:t≠wy:=λz=>by rw [z,h4] at ht;cases ht
     have h5:=s5 _ _ h4
     refine ⟨vs,h5,jh (),_,vs++[.ref t],rfl,j8,?_,λc o hc n=>by rw [ja n];exact s5 _ _ (e4 c o hc n),by rw [az,bf];omega⟩
     rw [er,if_pos hb,aC]
     exact y8.keep (jy.lst Ext.put h5) (dh (w4.keep (jy.same s5)) ⟨t,rfl,ht5⟩)
    ·have hb:¬jU rs j=true:=by unfold jU;rw [decide_eq_true (show (j:Int)∈tos rs from hin)];exact ar
     refine ⟨_,vs,rfl,h4,?_,e4,()⟩
     rw [er,if_neg hb,aP]
     exact w4
   ·rintro σ H3 ⟨x,vs,rfl,h4,w4,e4,l4⟩
    have hT3:qI H3 Pt:=hT2.extN hwy e4
    obtain ⟨ps,hPt⟩:=hT3.ne
    rw [bL] at w4 l4
    have hvl:=w4.length
    left
    refine ⟨hT3,wy,vs,λi=>((((jw rs).map (qA rs)).getD i []).reverse),rfl,SqL.of h4,(),λi hi z=>?_,λH5 X5 i v hv=>?_,λlo H5 out hlo hlo5 X5 T5 hs=>?_⟩
    ·have hi2:i<(jw rs).length:=by
      rw [af] at hvl
      exact Nat.lt_of_lt_of_eq hi hvl
     have z2:((jw rs).map (qA rs)).getD i []=[]:=List.reverse_eq_nil_iff.mp z
     rw [ao,aq,ag hi2] at z2
     exact U8 _ z2
    ·obtain ⟨y,e2,a,rfl,ha⟩:=Paired.get w4 hv
     have ha5:=jy.tbl X5 hPt _ _ ha
     left
     refine ⟨a,_,rfl,SqT.of ha5,λq H6 hq hq6 s6=>⟨s6,q,rfl,?_⟩⟩
     show H6 q=some (.tup (((((jw rs).map (qA rs)).getD i []).reverse).map V.int))
     rw [hq6,ao,show ((jw rs).map (qA rs))[i]? = some y from e2,<- px]
     rfl
    ·obtain ⟨ws,hw,hrd⟩:=Ju (rs:=rs) rfl w4 (jy.tbl X5 hPt) hs
     have wyP:wy≠Pt:=jp h4 hPt (by walk_at "z")
     have enP:en≠Pt:=jp (e4 _ _ h3 (j4 h3 hwy)) hPt (by walk_at "z")
     have hlo3:H lo=none:=by
      have a1:H2 lo=none:=e4.free hlo (λz=>by rw [z,h4] at hlo;cases hlo)
      exact e3.free a1 (λz=>by rw [z,h3] at a1;cases a1)
     exact k lo H5 out ws hlo3 hlo5 hw hrd (λc o hc n=>X5 _ _ (e4 _ _ (e3 _ _ hc (j4 hc hen)) (j4 (e3 _ _ hc (j4 hc hen)) hwy)) n) T5
noncomputable def Va (K:ai):Sp:=λvs H Q _=>∃(p wl:Addr) (xs out:List V) (rs:List Rch) (ws:List (List Int)),vs=[.ref p,.ref wl]/\H p=some (.lst xs)/\qe H xs rs/\(∀r∈rs,r.2.length<=100)/\H wl=some (.lst out)/\y8 H out ws/\qj rs ws/\xi rs/\rs.length<=60 /\
 ∀H',jq H H'->Q (.bl (decide (((jw rs).length:Int)<=6) && (jw rs).all λh=>decide (jG rs (qA rs h)<=30))) H'
theorem Uh:FnScope ["reaches","ways"] ["reaches","ways"] (j9 Jo):=by walk_at "s"
theorem Um {f:Addr}{fd:FuncData}{u0 u1:Tok}(nb:Nb2 mg) (g_MOST_LANES:mg "MOST_LANES" = some (.int 6 u0)) (g_LONGEST_LANE:mg "LONGEST_LANE" = some (.int 30 u1)) (c_count_places:Cal P w K mg base 1 "count_places" ["reaches","way"] (Zm K)) (F:Fun K "fits" "fits" Jo f fd):FnOk P w K mg base CX0 2 f fd ["reaches","ways"] (Va K):=by
 refine F.ok Uh (λvs H Q E h=>?_) (λcdv A outer s H vs Q E hr h=>?_)
 ·obtain ⟨p,wl,xs,out,rs,ws,rfl,_⟩:=h
  rfl
 ·obtain ⟨p,wl,xs,out,rs,ws,rfl,hp,hrw,h100,hw,hws,hrd,L,h60,k⟩:=h
  have hwl:=hws.length
  have hrl:=hrd.length
  have hhl:(jw rs).length<=60:=by
   unfold jw
   exact aF (bo _ _) (by rw [cq];exact h60)
  have fin:∀(b:Bool) (H':Hp),jq H H'->b=(decide (((jw rs).length:Int)<=6) && (jw rs).all λh=>decide (jG rs (qA rs h)<=30))->Q (.bl b) H':=λb H' sm e=>by rw [e];exact k H' sm
  refine ⟨_,(jb (jj (zA (zj jS (jd (jg K) rfl nb.b_len aR (j2 (pv 1) j5)) (jF (v:=V.int 6) rfl g_MOST_LANES ⟨_,rfl⟩) (jt _)) (yb (jd (zk K rfl) rfl nb.b_all mJ (j2 (jW (osc:=(j9 Jo)) (ON:=["reaches","ways"]) (N:=["way","reaches"]) (own:=1) (caps:=[0]) ⟨rfl,∅,∅,∅,rfl,∅⟩ rfl rfl rfl (qm K (pv 1)) (λ_ _ _ _ _=>(ji (i:=0) (show aZ (["way","reaches"]:List Str) by decide +kernel) rfl (bb rfl))) (λ_ _ _ _ _=>jH) (λ_ _ _ _ _=>(zj jS (je c_count_places (hr.mono ⋯) rfl (j2 (pv 1) (j2 (pv 0) j5))) (jF (v:=V.int 30) rfl g_LONGEST_LANE ⟨_,rfl⟩) (jt _)))) j5)))))),?_⟩
  left
  refine ⟨_,_,rfl,.inl (SqL.of hw),?_⟩
  left
  refine qo (λh1=>?_) (λh1=>?_)
  ·left
   refine ⟨⟨_,SqL.of hw⟩,λacc hacc=>?_⟩
   refine qc (K:=K) (a:=wl) (xs:=out) (acc:=acc) (λj σ H2=>∃x:Option V,σ=[x,some (.ref p)]/\H2 acc=some (.lst (((ws.take j).map λw=>decide (jG rs w<=30)).map V.bl))/\Ext acc H H2) ?_ ?_ ?_ ?_
   ·exact ⟨none,rfl,j8,Ext.put⟩
   ·rintro j σ H2 hj ⟨x,rfl,h3,e3⟩
    exact SqL.of (e3 _ _ hw (j4 hw hacc))
   ·rintro j v σ H2 hv ⟨x,rfl,h3,e3⟩
    obtain ⟨wy,ew,a,rfl,ha⟩:=Paired.get (hws.keep (jy.new e3 hacc)) hv
    have hj:j<ws.length:=(List.getElem?_eq_some_iff.mp ew).1
    obtain ⟨hd,hhd,ewy⟩:=hrd.mem (au ew)
    have hdl:=xA hhd
    have hwlen:wy.length<=100:=by rw [ewy];have:=ui L hd hdl;omega
    left
    refine ⟨p,a,xs,rs,wy,rfl,e3 _ _ hp (j4 hp hacc),hrw.keep (jy.new e3 hacc),h100,ha,by rw [ewy];exact xZ L hd hdl,hwlen,λH4 s4=>?_⟩
    left
    refine ⟨_,s4 _ _ h3,by rw [af,af,aT];exact jh (),_,rfl,?_,λc o hc n=>by rw [ja n];exact s4 _ _ (e3 c o hc n)⟩
    rw [j8,qE (λw=>decide (jG rs w<=30)) ws j wy ew,aC]
    rfl
   ·rintro σ H2 ⟨x,rfl,h3,e3⟩
    rw [hwl,br] at h3
    refine ⟨acc,_,rfl,SqL.of h3,?_⟩
    refine fin _ H2 (λc o hc=>e3 c o hc (j4 hc hacc)) ?_
    rw [decide_eq_true (show ((jw rs).length:Int)<=6 by rw [<- hrl,<- hwl];exact h1),eE,hrd.all]
  ·refine fin _ H (jq.refl H) ?_
   rw [decide_eq_false (show ¬((jw rs).length:Int)<=6 by rw [<- hrl,<- hwl];exact h1)]
   rfl
noncomputable def Qa (K:ai) (Pt:Addr):Sp:=λvs H Q _=>∃(p:Addr) (xs:List V) (rs:List Rch),vs=[.ref p]/\H p=some (.lst xs)/\qe H xs rs/\(∀r∈rs,r.2.length<=100)/\rs.length<=60/\qI H Pt/\∀H',Ext Pt H H'->qI H' Pt->Q (.bl (zH rs)) H'
theorem JD:FnScope ["reaches"] ["reaches"] (j9 zN):=by walk_at "s"
theorem Jw {f Pt:Addr}{fd:FuncData}{u0:Tok}(nb:Nb2 mg) (g_MOST_REACHES:mg "MOST_REACHES" = some (.int 8 u0)) (c_is_reach:Cal P w K mg base 2 "is_reach" ["number","reach"] ZG) (c_lanes:Cal P w K mg base 5 "lanes" ["reaches"] (vV K Pt)) (c_fits:Cal P w K mg base 2 "fits" ["reaches","ways"] (Va K)) (F:Fun K "is_valley" "is_valley" zN f fd):FnOk P w K mg base CX0 6 f fd ["reaches"] (Qa K Pt):=by
 refine F.ok JD (λvs H Q E h=>?_) (λcdv A outer s H vs Q E hr h=>?_)
 ·obtain ⟨p,xs,rs,rfl,_⟩:=h
  rfl
 ·obtain ⟨p,xs,rs,rfl,hp,hrw,h100,h60,hT,k⟩:=h
  have hlen:=hrw.length
  have fin:∀(b:Bool) (H':Hp),Ext Pt H H'->qI H' Pt->b=zH rs->Q (.bl b) H':=λb H' x t e=>by rw [e];exact k H' x t
  refine ⟨_,(j7 (jB (qy (qC jS jS j6 (jd (jg K) rfl nb.b_len aR (j2 (pv 0) j5)) (jF (v:=V.int 8) rfl g_MOST_REACHES ⟨_,rfl⟩))) (jb (jj wb)) jr)
   (j7 (jB (qy (xC (jd (zk K rfl) rfl nb.b_all mJ (j2 (jW (osc:=(j9 zN)) (ON:=["reaches"]) (N:=["number","reach"]) (own:=2) (caps:=[]) ⟨rfl,∅,∅,∅,rfl,∅⟩ rfl rfl rfl (Jb K rfl nb.b_enumerate (j2 (pv 0) j5)) (λ_ _ _ _ _=>(xB (n:=2) K rfl (jE (ji (i:=0) (show aZ (["number","reach"]:List Str) by decide +kernel) rfl (bb rfl)) (jE (ji (i:=1) (show aZ (["number","reach"]:List Str) by decide +kernel) rfl (bb rfl)) qV)))) (λ_ _ _ _ _=>jH) (λ_ _ _ _ _=>(je c_is_reach (hr.mono ⋯) rfl (j2 (pv 0) (j2 (pv 1) j5))))) j5)))) (jb (jj wb)) jr)
   (jb (jj (je c_fits (hr.mono ⋯) rfl (j2 (pv 0) (j2 (je c_lanes (hr.mono ⋯) rfl (j2 (pv 0) j5)) j5))))))),?_⟩
  left
  refine ⟨_,_,rfl,.inl (SqL.of hp),?_⟩
  left
  have no:¬(1<=(xs.length:Int)/\(xs.length:Int)<=8)->Q (.bl false) H:=λz=>fin _ H Ext.refl hT (by unfold zH;rw [decide_eq_false (by rw [<- hlen];exact z)];rfl)
  refine qo (λh1=>?_) (λh1=>?_)
  ·left
   refine xb (λh2=>?_) (λh2=>?_)
   ·left
    exact no λz=>h2 z.2
   ·have h18:decide (1<=(rs.length:Int)/\(rs.length:Int)<=8)=true:=decide_eq_true (by rw [<- hlen];exact ⟨h1,h2⟩)
    left
    refine ⟨⟨_,SqL.of hp⟩,λacc hacc=>?_⟩
    refine Y7 (K:=K) (a:=p) (xs:=xs) (acc:=acc) (λj σ H2=>∃x y:Option V,σ=[x,y]/\H2 acc=some (.lst ((((aV j)).map λi=>okR i (rs.getD i (-1,[]))).map V.bl))/\Ext acc H H2) ?_ ?_ ?_ ?_
    ·exact ⟨none,none,rfl,j8,Ext.put⟩
    ·rintro j σ H2 hj ⟨x,y,rfl,h3,e3⟩
     exact SqL.of (e3 _ _ hp (j4 hp hacc))
    ·rintro j v σ H2 t hv ⟨x,y,rfl,h3,e3⟩ ht
     have hacct:acc≠t:=λz=>by rw [z] at h3;rw [h3] at ht;cases ht
     obtain ⟨r,hr,hrow⟩:=(hrw.keep (jy.new e3 hacc)).get hv
     have hj:j<rs.length:=(List.getElem?_eq_some_iff.mp hr).1
     left
     refine ⟨t,_,rfl,SqT.of j8,rfl,?_⟩
     refine ⟨_,_,rfl,_,_,rfl,rfl,?_⟩
     left
     refine ⟨j,v,r,rfl,hrow.keep (jy.same (jq.new ht)),h100 r (au hr),λH4 s4=>?_⟩
     refine ⟨_,s4 _ _ ((jq.new ht) _ _ h3),by rw [af,af,cq];exact jh (),_,_,rfl,?_,λc o hc n=>by rw [ja n];exact s4 _ _ ((jq.new ht) _ _ (e3 c o hc n))⟩
     rw [j8,ez,aC,aC]
     simp only [b8,eU]
     rw [ao,hr]
     rfl
    ·rintro σ H2 ⟨x,y,rfl,h3,e3⟩
     rw [hlen] at h3
     have sm:jq H H2:=λc o hc=>e3 c o hc (j4 hc hacc)
     refine ⟨acc,_,rfl,SqL.of h3,?_⟩
     left
     have eok:(((aV rs.length).map λi=>okR i (rs.getD i (-1,[]))).all λb=>b)=uI rs:=by rw [eV];rfl
     rw [eok]
     cases hok:uI rs with
     | false =>
      refine zF ?_
      left
      exact fin _ H2 (Ext.of_same sm) (hT.same sm) (by unfold zH;rw [hok,h18];rfl)
     | true =>
      refine wU ?_
      have L:=qp hok
      left
      refine ⟨p,xs,rs,rfl,sm _ _ hp,hrw.keep (jy.same sm),L,h60,hT.same sm,λl H3 out ws hl hl3 w3 r3 X3 T3=>?_⟩
      obtain ⟨ps,hPt⟩:=(hT.same sm).ne
      have hp3:=X3 _ _ (sm _ _ hp) (jp (sm _ _ hp) hPt (by walk_at "z"))
      refine ⟨p,l,xs,out,rs,ws,rfl,hp3,hrw.keep ((jy.same sm).trans (jy.tbl X3 hPt)),h100,hl3,w3,r3,L,h60,λH4 s4=>?_⟩
      exact fin _ H4 (((Ext.of_same sm).trans X3).trans (Ext.of_same s4)) (T3.same s4) (by unfold zH;rw [hok,h18];rfl)
  ·refine ⟨_,rfl,zF ?_⟩
   left
   exact no λz=>h1 z.1
theorem vS:FnScope ["_law_number","_law_turn","_law_one"] ["_law_number","_law_turn"] (j9 yD):=by walk_at "s"
theorem Vc {f:Addr}{fd:FuncData}(F:Fun K "_law_mixed" "_law_mixed" yD f fd):FnOk P w K mg base CX0 1 f fd ["_law_number","_law_turn"] Zf:=by
 refine F.ok vS (λvs H Q E h=>?_) (λcdv A outer s H vs Q E hr h=>?_)
 ·obtain ⟨a,b,rfl,_⟩:=h
  rfl
 ·obtain ⟨a,b,rfl,k⟩:=h
  refine ⟨_,(j7 (ju 2 vS.nd (jo zS (jo qg (jo qg (jo uA (pv 0) j6) (jo uA (pv 1) j6)) j6) j6))
   (jb (jj (jo um (jo zS (jo qg (jo qg (jo uA (pv 2) (jo qg (jo zS (pv 2) j6) j6)) (jo uA (pv 1) j6)) (jo zS (jo um (pv 0) j6) j6)) j6) j6)))),?_⟩
  left
  exact k _
theorem yJ:FnScope ["_law_box_here","_law_size","_law_left","_law_cell"] ["_law_box_here","_law_size"] (j9 vP):=by walk_at "s"
theorem Ug {f:Addr}{fd:FuncData}(nb:Nb mg) (c_law_mixed:Cal P w K mg base 1 "_law_mixed" ["_law_number","_law_turn"] Zf) (F:Fun K "_law_take" "_law_take" vP f fd):FnOk P w K mg base CX0 2 f fd ["_law_box_here","_law_size"] qU:=by
 refine F.ok yJ (λvs H Q E h=>?_) (λcdv A outer s H vs Q E hr h=>?_)
 ·obtain ⟨L,b,n,rfl,_⟩:=h
  rfl
 ·obtain ⟨L,b,n,rfl,B,⟨hn,hn2⟩,k⟩:=h
  obtain ⟨ns,a,r,c,d,hb,hL,hS,ha⟩:=B
  refine ⟨_,(j7 (yB (jo qg (jk (jf K) (pv 0) j6 (λ_ _=>rfl)) j6) (Ji (pv 0) j6 ua))
   (j7 (jB (jn QS (jk (jf K) (pv 0) j6 (λ_ _=>rfl)) j6 (jt _)) (j7 (ju 2 yJ.nd (jk (jf K) (pv 0) j6 (λ_ _=>rfl)))
   (j7 (yB (jo um (pv 2) (pv 1)) (Ji (pv 0) j6 ua))
   (jb (jj (jo zS (pv 2) (pv 1)))))) jr)
   (j7 (jB (jn Uv (jk (jf K) (pv 0) j6 (λ_ _=>rfl)) (jd (jg K) rfl nb.b_len aR (j2 (jk (jf K) (pv 0) j6 (λ_ _=>rfl)) j5)) (jt _)) (jb (jj (jo zS (je c_law_mixed (hr.mono ⋯) rfl (j2 (jk (jf K) (pv 0) j6 (λ_ _=>rfl)) (j2 (jk (jf K) (pv 0) j6 (λ_ _=>rfl)) j5))) (pv 1)))) jr)
   (j7 (ju 3 yJ.nd (jk (jf K) (jk (jf K) (pv 0) j6 (λ_ _=>rfl)) (jk (jf K) (pv 0) j6 (λ_ _=>rfl)) (λ_ _=>rfl)))
   (j7 (yB (jo qg (jk (jf K) (pv 0) j6 (λ_ _=>rfl)) j6) (Ji (pv 0) j6 ua))
   (j7 (jB (jn wc (pv 3) (jo zR j6 j6) (jt _)) (jb (jj (jo zS (je c_law_mixed (hr.mono ⋯) rfl (j2 (pv 3) (j2 (jk (jf K) (pv 0) j6 (λ_ _=>rfl)) j5))) (pv 1)))) jr)
   (j7 (yB (jo um (pv 3) (pv 1)) (Ji (pv 0) j6 ua))
   (jb (jj (jo zS (pv 3) (pv 1))))))))))),?_⟩
  left
  refine qo (λh1=>?_) (λh1=>?_)
  ·left
   exact k _ _ (iq _ ()) (ft _ hn) ⟨ns,_,_,_,_,j8,hL,(Ext.put.trans Ext.put) _ _ hS hL,ha⟩ (Ext.put.trans Ext.put)
  ·have hS1:∀o,SqL K (upd H b o) L (ns.map V.int):=λo=>SqL.of (Ext.put _ _ hS hL)
   left
   refine ⟨_,_,rfl,.inl (hS1 _),?_⟩
   left
   refine qo (λh2=>?_) (λh2=>?_)
   ·left
    refine ⟨_,_,rfl,λz=>?_⟩
    left
    exact k _ _ (iq _ ()) (ft _ hn) ⟨ns,_,_,_,_,j8,hL,Ext.put _ _ hS hL,ha⟩ Ext.put
   ·have h3:a<ns.length:=by
     rw [af] at h2
     omega
    obtain ⟨z,hz⟩:=vJ ha h3
    left
    refine ⟨_,_,_,_,rfl,rfl,hS1 _,hz,?_⟩
    left
    refine qo (λh4=>?_) (λh4=>?_)
    ·left
     refine ⟨_,_,rfl,λz=>?_⟩
     left
     exact k _ _ (iq _ ()) (ft _ hn) ⟨ns,_,_,_,_,j8,hL,(Ext.put.trans Ext.put) _ _ hS hL,()⟩ (Ext.put.trans Ext.put)
    ·left
     exact k _ _ (iq _ ()) (ft _ hn) ⟨ns,_,_,_,_,j8,hL,((Ext.put.trans Ext.put).trans Ext.put) _ _ hS hL,()⟩ ((Ext.put.trans Ext.put).trans Ext.put)
theorem yn:FnScope ["_law_script","_law_seed","_law_cell"] ["_law_script"] (j9 ux):=by walk_at "s"
theorem W8 {f:Addr}{fd:FuncData}(nb:Nb mg) (F:Fun K "_law_box" "_law_box" ux f fd):FnOk P w K mg base CX0 1 f fd ["_law_script"] (YV K):=by
 refine F.ok yn (λvs H Q E h=>?_) (λcdv A outer s H vs Q E hr h=>?_)
 ·obtain ⟨a,ns,rfl,_⟩:=h
  rfl
 ·obtain ⟨a,ns,rfl,hS,k⟩:=h
  refine ⟨_,(j7 (ju 1 yn.nd j6)
   (j7 (xI bG rfl (qm K (pv 0)) (ji (i:=2) yn.nd rfl (bb rfl)) (jb (ju 1 yn.nd (jo zS (jo qg (jo qg (jo uA (pv 1) j6) (jo zS (pv 2) j6)) j6) j6))))
   (jb (jj (jz (j2 (jL (qa K) rfl nb.b_list bz (j2 (pv 0) j5)) (j2 j6 (j2 j6 (j2 j6 (j2 (pv 1) j5)))))))))),?_⟩
  left
  refine ⟨⟨_,hS⟩,kI (K:=K) (a:=a) (xs:=ns.map V.int) (λi σ H2=>∃(seed:Int) (v:Option V),σ=[some (.ref a),some (.int seed),v]/\H2=H) ⟨_,_,rfl,rfl⟩ (λi σ H2 _ ⟨_,_,_,e⟩=>by rw [e];exact hS) ?_ ?_⟩
  ·rintro i y σ H2 hi ⟨seed,v,rfl,rfl⟩
   obtain ⟨z,rfl⟩:=yP hi
   left
   exact ⟨_,_,rfl,rfl⟩
  ·rintro σ H2 ⟨seed,v,rfl,rfl⟩
   left
   refine ⟨a,_,rfl,.inl hS,λL H3 hL hL3 s3=>?_⟩
   left
   refine ⟨by show 5<=sizeLine;decide,λb H4 hb hb4 s4=>?_⟩
   exact k L b _ (s3.free hb) ⟨ns,_,_,_,_,hb4,j4 hL3 hb,s4 _ _ hL3,Int.le_refl _⟩ (s3.trans s4)
noncomputable def good (t:T3):Bool:=decide (0<=t.1/\t.1<=100/\0<=t.2.1/\t.2.1<=9/\0<=t.2.2/\t.2.2<=9)
noncomputable def gr (ts:List T3):Bool:=decide (1<=(ts.length:Int)/\(ts.length:Int)<=12) && ts.all good
theorem Uu {ts:List T3}(h:¬(1<=(ts.length:Int)/\(ts.length:Int)<=12)):gr ts=false:=by unfold gr;rw [decide_eq_false h];rfl
theorem UE {ts:List T3}(h:1<=(ts.length:Int)/\(ts.length:Int)<=12):gr ts=(ts.map good).all λb=>b:=by
 unfold gr
 rw [decide_eq_true h,eE,eV]
 rfl
noncomputable def kF:Sp:=λvs H Q _=>∃(p:Addr) (t:T3),vs=[.ref p]/\H p=some (uT t)/\Q (.bl (good t)) H
local macro_rules | `(tactic| walk_at "forks")=>`(tactic| (walk_at "r";first | (refine qo (fun _=>?_) (fun _=>?_) <;> walk_at "forks") | skip))
theorem xO:FnScope ["row","line","snow","sun"] ["row"] (j9 yt):=by walk_at "s"
theorem kP {f:Addr}{fd:FuncData}{u0 u1:Tok}(g_HIGHEST_LINE:mg "HIGHEST_LINE" = some (.int 100 u0)) (g_MOST_HANDS:mg "MOST_HANDS" = some (.int 9 u1)) (F:Fun K "is_weather" "is_weather" yt f fd):FnOk P w K mg base CX0 1 f fd ["row"] kF:=by
 refine F.ok xO (λvs H Q E h=>?_) (λcdv A outer s H vs Q E hr h=>?_)
 ·obtain ⟨p,t,rfl,_⟩:=h
  rfl
 ·obtain ⟨p,⟨l,sn,u⟩,rfl,hp,k⟩:=h
  refine ⟨_,(j7 (yB (pv 0) (xB (n:=3) K rfl (jE (ji (i:=1) xO.nd rfl (bb rfl)) (jE (ji (i:=2) xO.nd rfl (bb rfl)) (jE (ji (i:=3) xO.nd rfl (bb rfl)) qV)))))
   (jb (jj (zA (xr jS jS j6 (pv 1) (jF (v:=V.int 100) rfl g_HIGHEST_LINE ⟨_,rfl⟩)) (zA (xr jS jS j6 (pv 2) (jF (v:=V.int 9) rfl g_MOST_HANDS ⟨_,rfl⟩)) (yb (xr jS jS j6 (pv 3) (jF (v:=V.int 9) rfl g_MOST_HANDS ⟨_,rfl⟩)))))))),?_⟩
  left
  refine ⟨p,_,rfl,SqT.of hp,rfl,?_⟩
  refine ⟨_,_,rfl,_,_,rfl,_,_,rfl,rfl,?_⟩
  walk_at "forks"
  all_goals
   refine Eq.mp (congrArg (λz=>Q (V.bl z) H) ?_) k
   unfold good
   dsimp only at *
   first | (apply decide_eq_false;omega) | (apply decide_eq_decide.mpr;omega)
theorem QI:FnScope ["rows"] ["rows"] (j9 yl):=by walk_at "s"
noncomputable def Zx (K:ai):Sp:=λvs H Q _=>∃(p:Addr) (xs:List V) (ts:List T3),vs=[.ref p]/\H p=some (.lst xs)/\jQ H xs ts/\ts.length<=1000/\∀H',jq H H'->Q (.bl (gr ts)) H'
theorem Qj {f:Addr}{fd:FuncData}{u0:Tok}(nb:Nb mg) (g_MOST_ROWS:mg "MOST_ROWS" = some (.int 12 u0)) (c_is_weather:Cal P w K mg base 1 "is_weather" ["row"] kF) (F:Fun K "is_round" "is_round" yl f fd):FnOk P w K mg base CX0 2 f fd ["rows"] (Zx K):=by
 refine F.ok QI (λvs H Q E h=>?_) (λcdv A outer s H vs Q E hr h=>?_)
 ·obtain ⟨p,xs,ts,rfl,_⟩:=h
  rfl
 ·obtain ⟨p,xs,ts,rfl,hp,hr3,h1000,k⟩:=h
  have hlen:=hr3.length
  refine ⟨_,(jb (jj (zA (xr jS jS j6 (jd (jg K) rfl nb.b_len aR (j2 (pv 0) j5)) (jF (v:=V.int 12) rfl g_MOST_ROWS ⟨_,rfl⟩)) (yb (jd (zk K rfl) rfl nb.b_all mJ (j2 (jW (osc:=(j9 yl)) (ON:=["rows"]) (N:=["row"]) (own:=1) (caps:=[]) ⟨rfl,∅,∅,∅,rfl,∅⟩ rfl rfl rfl (qm K (pv 0)) (λ_ _ _ _ _=>(ji (i:=0) (show aZ (["row"]:List Str) by decide +kernel) rfl (bb rfl))) (λ_ _ _ _ _=>jH) (λ_ _ _ _ _=>(je c_is_weather (hr.mono ⋯) rfl (j2 (pv 0) j5)))) j5)))))),?_⟩
  left
  refine ⟨_,_,rfl,.inl (SqL.of hp),?_⟩
  left
  refine qo (λh1=>?_) (λh1=>?_)
  ·left
   refine qo (λh2=>?_) (λh2=>?_)
   ·left
    refine ⟨⟨_,SqL.of hp⟩,λacc hacc=>?_⟩
    refine qc (K:=K) (a:=p) (xs:=xs) (acc:=acc) (λi σ H2=>∃x:Option V,σ=[x]/\H2 acc=some (.lst (((ts.take i).map good).map V.bl))/\Ext acc H H2) ?_ ?_ ?_ ?_
    ·exact ⟨none,rfl,j8,Ext.put⟩
    ·rintro i σ H2 hi ⟨x,rfl,h3,e3⟩
     exact SqL.of (e3 _ _ hp (j4 hp hacc))
    ·rintro i v σ H2 hv ⟨x,rfl,h3,e3⟩
     obtain ⟨t,ht,q,rfl,hq⟩:=hr3.get hv
     have hi:i<ts.length:=(List.getElem?_eq_some_iff.mp ht).1
     left
     refine ⟨q,t,rfl,e3 _ _ hq (j4 hq hacc),?_⟩
     refine ⟨_,h3,by rw [af,af,aT];exact jh (),_,rfl,?_,e3.trans Ext.put⟩
     rw [j8,qE good ts i t ht,aC]
     rfl
    ·rintro σ H2 ⟨x,rfl,h3,e3⟩
     rw [hlen,br] at h3
     refine ⟨acc,ts.map good,rfl,SqL.of h3,?_⟩
     have k2:=k H2 λc o hc=>e3 c o hc (j4 hc hacc)
     rw [UE (by rw [hlen] at h1 h2;exact ⟨h1,h2⟩)] at k2
     exact k2
   ·left
    have k2:=k H (jq.refl H)
    rw [Uu (by rw [hlen] at h2;intro z;exact h2 z.2)] at k2
    exact k2
  ·left
   have k2:=k H (jq.refl H)
   rw [Uu (by rw [hlen] at h1;intro z;exact h1 z.1)] at k2
   exact k2
noncomputable def ve:Sp:=λvs H Q _=>∃(L b:Addr),vs=[.ref b]/\jC L H b/\∀(p:Addr) (H':Hp) (t:T3),jC L H' b->Ext b H H'->H' p=some (uT t)->good t=true->Q (.ref p) H'
theorem yU:FnScope ["_law_box_here","_law_line"] ["_law_box_here"] (j9 zV):=by walk_at "s"
theorem five {v3 v1 v2:Int}(a:0<=v3) (b:v3<5) (c:0<=v1) (d:v1<20) (e:0<=v2) (g:v2<101):∃ln,atI [V.int (40+v1),V.int v2,V.int 0,V.int 100,V.int 50] v3=some (V.int ln)/\0<=ln/\ln<=100:=by
 have h:v3=0\/v3=1\/v3=2\/v3=3\/v3=4:=()
 rcases h with rfl | rfl | rfl | rfl | rfl
 ·exact ⟨40+v1,rfl,(),()⟩
 ·exact ⟨v2,rfl,(),()⟩
 ·exact ⟨0,rfl,(),()⟩
 ·exact ⟨100,rfl,(),()⟩
 ·exact ⟨50,rfl,(),()⟩
theorem Z2 {f:Addr}{fd:FuncData}(c_law_take:Cal P w K mg base 2 "_law_take" ["_law_box_here","_law_size"] qU) (F:Fun K "_law_weather" "_law_weather" zV f fd):FnOk P w K mg base CX0 3 f fd ["_law_box_here"] ve:=by
 refine F.ok yU (λvs H Q E h=>?_) (λcdv A outer s H vs Q E hr h=>?_)
 ·obtain ⟨L,b,rfl,_⟩:=h
  rfl
 ·obtain ⟨L,b,rfl,B,k⟩:=h
  refine ⟨_,(j7 (ju 1 yU.nd (jk (jf K) (jz (j2 (jo qg j6 (je c_law_take (hr.mono ⋯) rfl (j2 (pv 0) (j2 j6 j5)))) (j2 (je c_law_take (hr.mono ⋯) rfl (j2 (pv 0) (j2 j6 j5))) (j2 j6 (j2 j6 (j2 j6 j5)))))) (je c_law_take (hr.mono ⋯) rfl (j2 (pv 0) (j2 j6 j5))) (λ_ _=>rfl)))
   (jb (jj (js (j2 (pv 1) (j2 (je c_law_take (hr.mono ⋯) rfl (j2 (pv 0) (j2 j6 j5))) (j2 (je c_law_take (hr.mono ⋯) rfl (j2 (pv 0) (j2 j6 j5))) j5))))))),?_⟩
  left
  refine ⟨L,b,_,rfl,B,⟨⋯,⋯⟩,λv1 H1 p1 q1 B1 X1=>?_⟩
  left
  refine ⟨L,b,_,rfl,B1,⟨⋯,⋯⟩,λv2 H2 p2 q2 B2 X2=>?_⟩
  refine ⟨by show 5<=sizeLine;decide,λq Hq hq hqq sq=>?_⟩
  left
  refine ⟨L,b,_,rfl,B2.same sq,⟨⋯,⋯⟩,λv3 H3 p3 q3 B3 X3=>?_⟩
  have hq3:=X3 _ _ hqq (B2.ne hq)
  obtain ⟨ln,hln,l0,l1⟩:=five p3 q3 p1 q1 p2 q2
  refine ⟨_,_,_,_,rfl,rfl,SqL.of hq3,hln,?_⟩
  left
  refine ⟨L,b,_,rfl,B3,⟨⋯,⋯⟩,λv4 H4 p4 q4 B4 X4=>?_⟩
  left
  refine ⟨L,b,_,rfl,B4,⟨⋯,⋯⟩,λv5 H5 p5 q5 B5 X5=>?_⟩
  refine ⟨by show 3<=sizeLine;decide,λp Hp hp hpp sp=>?_⟩
  exact k p _ (ln,v4,v5) (B5.same sp) ((((((X1.trans X2).trans (Ext.of_same sq)).trans X3).trans X4).trans X5).trans (Ext.of_same sp)) hpp (decide_eq_true ⟨l0,l1,p4,(show v4<=9 by omega),p5,(show v5<=9 by omega)⟩)
noncomputable def yV:Sp:=λvs H Q _=>∃(L b:Addr),vs=[.ref b]/\jC L H b/\∀(p:Addr) (H':Hp) (xs:List V) (ts:List T3),jC L H' b->Ext b H H'->H p=none->H' p=some (.lst xs)->jQ H' xs ts->(1<=ts.length/\ts.length<=12)->ts.all good=true->Q (.ref p) H'
theorem Jm:FnScope ["_law_box_here"] ["_law_box_here"] (j9 zI):=by walk_at "s"
theorem Qb {v:Int}(a:0<=v) (b:v<3):∃n,atI [V.int 1,V.int 3,V.int 12] v=some (V.int n)/\0<n/\n<=12:=by
 have h:v=0\/v=1\/v=2:=()
 rcases h with rfl | rfl | rfl
 ·exact ⟨1,rfl,(),()⟩
 ·exact ⟨3,rfl,(),()⟩
 ·exact ⟨12,rfl,(),()⟩
theorem Vj {f:Addr}{fd:FuncData}(nb:Nb mg) (c_law_take:Cal P w K mg base 2 "_law_take" ["_law_box_here","_law_size"] qU) (c_law_weather:Cal P w K mg base 3 "_law_weather" ["_law_box_here"] ve) (F:Fun K "_law_round" "_law_round" zI f fd):FnOk P w K mg base CX0 4 f fd ["_law_box_here"] yV:=by
 refine F.ok Jm (λvs H Q E h=>?_) (λcdv A outer s H vs Q E hr h=>?_)
 ·obtain ⟨L,b,rfl,_⟩:=h
  rfl
 ·obtain ⟨L,b,rfl,B,k⟩:=h
  refine ⟨_,(jb (jj (jW (osc:=(j9 zI)) (ON:=["_law_box_here"]) (N:=["_law_turn","_law_box_here"]) (own:=1) (caps:=[0]) ⟨rfl,∅,∅,∅,rfl,∅⟩ rfl rfl rfl (qL rfl nb.b_range (j2 (jo qg j6 (je c_law_take (hr.mono ⋯) rfl (j2 (pv 0) (j2 (jk (jf K) (jz (j2 j6 (j2 j6 (j2 j6 j5)))) (je c_law_take (hr.mono ⋯) rfl (j2 (pv 0) (j2 j6 j5))) (λ_ _=>rfl)) j5)))) j5)) (λ_ _ _ _ _=>(ji (i:=0) (show aZ (["_law_turn","_law_box_here"]:List Str) by decide +kernel) rfl (bb rfl))) (λ_ _ _ _ _=>jH) (λ_ _ _ _ _=>(je c_law_weather (hr.mono ⋯) rfl (j2 (pv 1) j5)))))),?_⟩
  left
  refine ⟨by show 3<=sizeLine;decide,λq Hq hq hqq sq=>?_⟩
  left
  refine ⟨L,b,_,rfl,B.same sq,⟨⋯,⋯⟩,λv1 H1 p1 q1 B1 X1=>?_⟩
  obtain ⟨n,hn,n0,n1⟩:=Qb p1 q1
  refine ⟨_,_,_,_,rfl,rfl,SqL.of (X1 _ _ hqq (B.ne hq)),hn,?_⟩
  refine ⟨L,b,_,rfl,B1,⟨n0,()⟩,λv2 H2 p2 q2 B2 X2=>?_⟩
  refine ⟨_,_,rfl,rfl,?_⟩
  refine ⟨1+v2,rfl,(),(),λacc hacc=>?_⟩
  have nb1:=B2.ne hacc
  have nb2:=B2.neL hacc
  have hfree:∀a,H2 a=none->a≠b->H a=none:=λa n nb=>jq.free sq (X1.free (X2.free n nb) nb)
  refine xD (lo:=0) (n:=(1+v2).toNat) (acc:=acc) (λi σ H3=>∃(x:Option V) (xs:List V) (ts:List T3),σ=[x,some (.ref b)]/\jC L H3 b/\(∀c o,H2 c=some o->c≠b->H3 c=some o)/\H3 acc=some (.lst xs)/\jQ H3 xs ts/\ts.length=i/\ts.all good=true) ?_ ?_ ?_
  ·exact ⟨none,[],[],rfl,B2.put nb1 nb2,λc o hc n=>Ext.put _ _ hc (j4 hc hacc),j8,.nil,rfl,rfl⟩
  ·rintro i σ H3 hi ⟨x,xs,ts,rfl,B3,ks,h3,r3,hl,hg⟩
   left
   refine ⟨L,b,rfl,B3,λp H4 t B4 X4 hp ht=>?_⟩
   have h4:=X4 _ _ h3 nb1
   have r4:jQ H4 xs ts:=r3.imp λp t e=>X4 _ _ e (B3.ne_tup e)
   have hlen:=r4.length
   refine ⟨xs,h4,jh (),_,xs++[.ref p],ts++[t],rfl,B4.put nb1 nb2,λc o hc n=>Ext.put _ _ (X4 _ _ (ks c o hc n) n) (j4 hc hacc),j8,?_,by rw [az,hl];rfl,by rw [List.all_append,hg];simp [ht]⟩
   exact jQ.imp (r4.snoc ⟨p,rfl,hp⟩) λq t e=>Ext.put _ _ e (jp e h4 (by walk_at "z"))
  ·rintro σ H3 ⟨x,xs,ts,rfl,B3,ks,h3,r3,hl,hg⟩
   exact k acc H3 xs ts B3 (λc o hc n=>ks c o (X2 _ _ (X1 _ _ (sq _ _ hc) n) n) n) (hfree acc hacc nb1) h3 r3 () hg
theorem Jf:FnScope ["_law_found"] ["_law_found"] (j9 yI):=by walk_at "s"
theorem Vy {f:Addr}{fd:FuncData}(nb:Nb2 mg) (F:Fun K "_law_whole" "_law_whole" yI f fd):FnOk P w K mg base CX0 1 f fd ["_law_found"] ZD:=by
 refine F.ok Jf (λvs H Q E h=>?_) (λcdv A outer s H vs Q E hr h=>?_)
 ·obtain ⟨i,rfl,_⟩:=h
  rfl
 ·obtain ⟨i,rfl,k⟩:=h
  refine ⟨_,(jb (jj (zA (jd (jZ K) rfl nb.b_isinstance aH (j2 (pv 0) (j2 (xg (v:=V.ty "int") rfl nb.b_int eJ rfl) j5))) (yb (Wz (jd (jZ K) rfl nb.b_isinstance aH (j2 (pv 0) (j2 (xg (v:=V.ty "bool") rfl nb.b_bool fQ rfl) j5)))))))),?_⟩
  left
  refine ⟨_,_,_,_,rfl,.int _,km K,_,rfl,zF ?_⟩
  left
  refine ⟨_,_,_,_,rfl,.int _,uW K,_,rfl,?_⟩
  exact k
theorem uv:FnScope ["_law_found","_law_due"] ["_law_found","_law_due"] (j9 xW):=by walk_at "s"
theorem ZW {f:Addr}{fd:FuncData}(F:Fun K "_law_alike" "_law_alike" xW f fd):FnOk P w K mg base CX0 1 f fd ["_law_found","_law_due"] (YU 0):=by
 refine F.ok uv (λvs H Q E h=>?_) (λcdv A outer s H vs Q E hr h=>?_)
 ·obtain ⟨x,y,d,rfl,_⟩:=h
  rfl
 ·obtain ⟨x,y,d,rfl,_,_,z,_⟩:=h
  cases z
theorem gK (n:Nat) {f:Addr}{fd:FuncData}(nb:Nb2 mg) (c_law_whole:Cal P w K mg base 1 "_law_whole" ["_law_found"] ZD) (c_law_alike:Cal P w K mg base (n+1) "_law_alike" ["_law_found","_law_due"] (YU n)) (F:Fun K "_law_alike" "_law_alike" xW f fd):FnOk P w K mg base CX0 (n+2) f fd ["_law_found","_law_due"] (YU (n+1)):=by
 refine F.ok uv (λvs H Q E h=>?_) (λcdv A outer s H vs Q E hr h=>?_)
 ·obtain ⟨x,y,d,rfl,_⟩:=h
  rfl
 ·obtain ⟨x,y,d,rfl,hx,hy,hs,k⟩:=h
  refine ⟨_,(j7 (jB (jn wX (pv 1) zy (jt _)) (jb (jj (zj wX (pv 0) zy (jt _)))) jr)
   (j7 (jB (xC (jd (jZ K) rfl nb.b_isinstance aH (j2 (pv 1) (j2 (xg (v:=V.ty "bool") rfl nb.b_bool fQ rfl) j5)))) (jb (jj (zA (jd (jZ K) rfl nb.b_isinstance aH (j2 (pv 0) (j2 (xg (v:=V.ty "bool") rfl nb.b_bool fQ rfl) j5))) (yb (zj qh (pv 0) (pv 1) (jt _)))))) jr)
   (j7 (jB (xC (jd (jZ K) rfl nb.b_isinstance aH (j2 (pv 1) (j2 (xg (v:=V.ty "int") rfl nb.b_int eJ rfl) j5)))) (jb (jj (zA (je c_law_whole (hr.mono ()) rfl (j2 (pv 0) j5)) (yb (zj qh (pv 0) (pv 1) (jt _)))))) jr)
   (j7 (jB (xC (jd (jZ K) rfl nb.b_isinstance aH (j2 (pv 1) (j2 (xg (v:=V.ty "str") rfl nb.b_str mm rfl) j5)))) (jb (jj (zA (jd (jZ K) rfl nb.b_isinstance aH (j2 (pv 0) (j2 (xg (v:=V.ty "str") rfl nb.b_str mm rfl) j5))) (yb (zj qh (pv 0) (pv 1) (jt _)))))) jr)
   (j7 (jB (PW.pt (kB (jn Vs (jd (jZ K) rfl nb.b_isinstance aH (j2 (pv 1) (j2 (xg (v:=V.ty "list") rfl nb.b_list bz rfl) j5))) (jd (jZ K) rfl nb.b_isinstance aH (j2 (pv 0) (j2 (xg (v:=V.ty "list") rfl nb.b_list bz rfl) j5))) (jt _)) (uB (jn Vs (jd (jZ K) rfl nb.b_isinstance aH (j2 (pv 1) (j2 (xg (v:=V.ty "tuple") rfl nb.b_tuple c8 rfl) j5))) (jd (jZ K) rfl nb.b_isinstance aH (j2 (pv 0) (j2 (xg (v:=V.ty "tuple") rfl nb.b_tuple c8 rfl) j5))) (jt _))))) (jb (jj wb)) jr)
   (jb (jj (zA (zj qh (jd (jg K) rfl nb.b_len aR (j2 (pv 0) j5)) (jd (jg K) rfl nb.b_len aR (j2 (pv 1) j5)) (jt _)) (yb (jd (zk K rfl) rfl nb.b_all mJ (j2 (jW (osc:=(j9 xW)) (ON:=["_law_found","_law_due"]) (N:=["_law_one","_law_other"]) (own:=2) (caps:=[]) ⟨rfl,∅,∅,∅,rfl,∅⟩ rfl rfl rfl (Uj K rfl nb.b_zip (j2 (pv 0) (j2 (pv 1) j5))) (λ_ _ _ _ _=>(xB (n:=2) K rfl (jE (ji (i:=0) (show aZ (["_law_one","_law_other"]:List Str) by decide +kernel) rfl (bb rfl)) (jE (ji (i:=1) (show aZ (["_law_one","_law_other"]:List Str) by decide +kernel) rfl (bb rfl)) qV)))) (λ_ _ _ _ _=>jH) (λ_ _ _ _ _=>(je c_law_alike (hr.mono ()) rfl (j2 (pv 0) (j2 (pv 1) j5))))) j5))))))))))),?_⟩
  cases d with
  | none =>
   cases hx;cases hy
   left
   exact k H (jq.refl _)
  | bool b =>
   cases hx;cases hy
   left
   refine ⟨_,_,_,_,rfl,.bl _,ub K,_,rfl,zF ?_⟩
   left
   refine ⟨_,_,_,_,rfl,.bl _,ub K,_,rfl,zF ?_⟩
   left
   have k':=k H (jq.refl _)
   rw [decide_eq_true rfl]
   exact k'
  | int i =>
   cases hx;cases hy
   left
   refine ⟨_,_,_,_,rfl,.int _,uW K,_,rfl,wU ?_⟩
   left
   refine ⟨_,_,_,_,rfl,.int _,km K,_,rfl,zF ?_⟩
   left
   have k':=k H (jq.refl _)
   rw [decide_eq_true rfl]
   exact k'
  | str i =>
   cases hx;cases hy
   left
   refine ⟨_,_,_,_,rfl,.str _,QH K,_,rfl,wU ?_⟩
   left
   refine ⟨_,_,_,_,rfl,.str _,XR K,_,rfl,wU ?_⟩
   left
   refine ⟨_,_,_,_,rfl,.str _,wQ K,_,rfl,zF ?_⟩
   left
   refine ⟨_,_,_,_,rfl,.str _,wQ K,_,rfl,zF ?_⟩
   left
   have k':=k H (jq.refl _)
   rw [decide_eq_true rfl]
   exact k'
  | list ds =>
   cases hx with
   | @lst a va _ ha da =>
   cases hy with
   | @lst b vb _ hb db =>
   have el:=da.length
   have el2:=db.length
   have hsm:ds.length<=1000/\ds.all (vL n)=true:=by
    have z:(decide (ds.length<=1000) && ds.all (vL n))=true:=hs
    rw [ba] at z
    exact ⟨of_decide_eq_true z.1,z.2⟩
   left
   refine ⟨_,_,_,_,rfl,.lst hb,Jq K,_,rfl,wU ?_⟩
   left
   refine ⟨_,_,_,_,rfl,.lst hb,JY K,_,rfl,wU ?_⟩
   left
   refine ⟨_,_,_,_,rfl,.lst hb,QL K,_,rfl,wU ?_⟩
   left
   refine ⟨_,_,_,_,rfl,.lst hb,uq K,?_⟩
   left
   refine ⟨_,_,_,_,rfl,.lst ha,uq K,?_⟩
   left
   refine ⟨_,_,_,_,rfl,.lst hb,vy K,?_⟩
   left
   refine ⟨_,_,_,_,rfl,.lst ha,vy K,?_⟩
   left
   refine ⟨_,_,rfl,.inl (SqL.of ha),?_⟩
   left
   refine ⟨_,_,rfl,.inl (SqL.of hb),?_⟩
   left
   rw [el,el2]
   refine qo (λ_=>?_) (λz=>absurd rfl z)
   left
   refine ⟨false,false,_,_,rfl,⟨_,SqL.of ha⟩,⟨_,SqL.of hb⟩,λacc hacc=>?_⟩
   refine gZ (K:=K) (t0:=false) (u0:=false) (a:=a) (b:=b) (xs:=va) (ys:=vb) (acc:=acc) (el.trans el2.symm) (λj σ H2=>∃x y:Option V,σ=[x,y]/\H2 acc=some (.lst ((dm j true).map V.bl))/\Ext acc H H2) ?_ ?_ ?_ ?_
   ·exact ⟨none,none,rfl,j8,Ext.put⟩
   ·rintro j σ H2 hj ⟨x,y,rfl,h3,e3⟩
    exact ⟨SqL.of (e3 _ _ ha (j4 ha hacc)),SqL.of (e3 _ _ hb (j4 hb hacc))⟩
   ·rintro j x y σ H2 p hx hy ⟨v1,v2,rfl,h3,e3⟩ hp
    obtain ⟨d1,hd1,q1⟩:=da.get hx
    obtain ⟨d2,hd2,q2⟩:=db.get hy
    rw [hd1] at hd2
    cases hd2
    have hj:j<ds.length:=(List.getElem?_eq_some_iff.mp hd1).1
    have s2:jq H (upd H2 p (.tup [x,y])):=λc o hc=>(jq.new hp) _ _ (e3 _ _ hc (j4 hc hacc))
    have q1':=q1.same s2
    have q2':=q2.same s2
    have h3':upd H2 p (.tup [x,y]) acc=_:=(jq.new hp) _ _ h3
    have e3':Ext acc H (upd H2 p (.tup [x,y])):=λc o hc n=>(jq.new hp) _ _ (e3 _ _ hc n)
    have hp':upd H2 p (.tup [x,y]) p=some (.tup [x,y]):=j8
    generalize upd H2 p (.tup [x,y])=H4 at s2 q1' q2' h3' e3' hp'
    left
    refine ⟨p,_,rfl,SqT.of hp',rfl,?_⟩
    refine ⟨_,_,rfl,_,_,rfl,rfl,?_⟩
    left
    refine ⟨x,y,d1,rfl,q1',q2',List.all_eq_true.mp hsm.2 _ (au hd1),λH5 s5=>?_⟩
    refine ⟨_,s5 _ _ h3',by rw [af,eG];exact jh (),_,_,rfl,?_,λc o hc n=>by rw [ja n];exact s5 _ _ (e3' c o hc n)⟩
    rw [j8,mK,aC]
    rfl
   ·rintro σ H2 ⟨v1,v2,rfl,h3,e3⟩
    refine ⟨acc,_,rfl,SqL.of h3,?_⟩
    have e:((dm va.length true).all λb=>b)=true:=by
     rw [bQ]
     intro x hx
     exact (List.mem_replicate.mp hx).2
    rw [e]
    exact k H2 λc o hc=>e3 c o hc (j4 hc hacc)
  | tuple ds =>
   cases hx with
   | @tup a va _ ha da =>
   cases hy with
   | @tup b vb _ hb db =>
   have el:=da.length
   have el2:=db.length
   have hsm:ds.length<=1000/\ds.all (vL n)=true:=by
    have z:(decide (ds.length<=1000) && ds.all (vL n))=true:=hs
    rw [ba] at z
    exact ⟨of_decide_eq_true z.1,z.2⟩
   left
   refine ⟨_,_,_,_,rfl,.tup hb,hW K,_,rfl,wU ?_⟩
   left
   refine ⟨_,_,_,_,rfl,.tup hb,JL K,_,rfl,wU ?_⟩
   left
   refine ⟨_,_,_,_,rfl,.tup hb,Jj K,_,rfl,wU ?_⟩
   left
   refine ⟨_,_,_,_,rfl,.tup hb,vw K,?_⟩
   left
   refine ⟨_,_,_,_,rfl,.tup ha,vw K,?_⟩
   left
   refine ⟨_,_,_,_,rfl,.tup hb,yE K,?_⟩
   left
   refine ⟨_,_,_,_,rfl,.tup ha,yE K,?_⟩
   left
   refine ⟨_,_,rfl,.inr (SqT.of ha),?_⟩
   left
   refine ⟨_,_,rfl,.inr (SqT.of hb),?_⟩
   left
   rw [el,el2]
   refine qo (λ_=>?_) (λz=>absurd rfl z)
   left
   refine ⟨true,true,_,_,rfl,⟨_,SqT.of ha⟩,⟨_,SqT.of hb⟩,λacc hacc=>?_⟩
   refine gZ (K:=K) (t0:=true) (u0:=true) (a:=a) (b:=b) (xs:=va) (ys:=vb) (acc:=acc) (el.trans el2.symm) (λj σ H2=>∃x y:Option V,σ=[x,y]/\H2 acc=some (.lst ((dm j true).map V.bl))/\Ext acc H H2) ?_ ?_ ?_ ?_
   ·exact ⟨none,none,rfl,j8,Ext.put⟩
   ·rintro j σ H2 hj ⟨x,y,rfl,h3,e3⟩
    exact ⟨SqT.of (e3 _ _ ha (j4 ha hacc)),SqT.of (e3 _ _ hb (j4 hb hacc))⟩
   ·rintro j x y σ H2 p hx hy ⟨v1,v2,rfl,h3,e3⟩ hp
    obtain ⟨d1,hd1,q1⟩:=da.get hx
    obtain ⟨d2,hd2,q2⟩:=db.get hy
    rw [hd1] at hd2
    cases hd2
    have hj:j<ds.length:=(List.getElem?_eq_some_iff.mp hd1).1
    have s2:jq H (upd H2 p (.tup [x,y])):=λc o hc=>(jq.new hp) _ _ (e3 _ _ hc (j4 hc hacc))
    have q1':=q1.same s2
    have q2':=q2.same s2
    have h3':upd H2 p (.tup [x,y]) acc=_:=(jq.new hp) _ _ h3
    have e3':Ext acc H (upd H2 p (.tup [x,y])):=λc o hc n=>(jq.new hp) _ _ (e3 _ _ hc n)
    have hp':upd H2 p (.tup [x,y]) p=some (.tup [x,y]):=j8
    generalize upd H2 p (.tup [x,y])=H4 at s2 q1' q2' h3' e3' hp'
    left
    refine ⟨p,_,rfl,SqT.of hp',rfl,?_⟩
    refine ⟨_,_,rfl,_,_,rfl,rfl,?_⟩
    left
    refine ⟨x,y,d1,rfl,q1',q2',List.all_eq_true.mp hsm.2 _ (au hd1),λH5 s5=>?_⟩
    refine ⟨_,s5 _ _ h3',by rw [af,eG];exact jh (),_,_,rfl,?_,λc o hc n=>by rw [ja n];exact s5 _ _ (e3' c o hc n)⟩
    rw [j8,mK,aC]
    rfl
   ·rintro σ H2 ⟨v1,v2,rfl,h3,e3⟩
    refine ⟨acc,_,rfl,SqL.of h3,?_⟩
    have e:((dm va.length true).all λb=>b)=true:=by
     rw [bQ]
     intro x hx
     exact (List.mem_replicate.mp hx).2
    rw [e]
    exact k H2 λc o hc=>e3 c o hc (j4 hc hacc)
  | _=>cases hx
noncomputable def ZE:Sp:=λvs H Q _=>∃(L b:Addr),vs=[.ref b]/\jC L H b/\∀(z:Int) (H':Hp),jC L H' b->Ext b H H'->Q (.int z) H'
theorem wV:FnScope ["_law_box_here","_law_some"] ["_law_box_here"] (j9 uH):=by walk_at "s"
theorem W3 {f:Addr}{fd:FuncData}(c_law_take:Cal P w K mg base 2 "_law_take" ["_law_box_here","_law_size"] qU) (F:Fun K "_law_odd" "_law_odd" uH f fd):FnOk P w K mg base CX0 3 f fd ["_law_box_here"] ZE:=by
 refine F.ok wV (λvs H Q E h=>?_) (λcdv A outer s H vs Q E hr h=>?_)
 ·obtain ⟨L,b,rfl,_⟩:=h
  rfl
 ·obtain ⟨L,b,rfl,B,k⟩:=h
  refine ⟨_,(j7 (ju 1 wV.nd (jz (j2 (jo xo j6 j6) (j2 j6 (j2 j6 (j2 j6 (j2 (jo xo (jo xo j6 j6) (je c_law_take (hr.mono ⋯) rfl (j2 (pv 0) (j2 (jo zR j6 j6) j5)))) (j2 j6 (j2 j6 (j2 j6 (j2 j6 (j2 (jo zR j6 j6) (j2 (jo qg (jo zR j6 j6) j6) (j2 j6 j5))))))))))))))
   (jb (jj (jk (jf K) (pv 1) (je c_law_take (hr.mono ⋯) rfl (j2 (pv 0) (j2 j6 j5))) (λ_ _=>rfl))))),?_⟩
  left
  refine ⟨L,b,_,rfl,B,⟨⋯,⋯⟩,λv1 H1 p1 q1 B1 X1=>?_⟩
  left
  refine ⟨by show 12<=sizeLine;decide,λq Hq hq hqq sq=>?_⟩
  left
  refine ⟨L,b,_,rfl,B1.same sq,⟨⋯,⋯⟩,λv2 H2 p2 q2 B2 X2=>?_⟩
  have hq2:=X2 _ _ hqq (B1.ne hq)
  obtain ⟨z,hz⟩:=vJ (ns:=[0-1,1,100,101,0-1-v1,9,10,13,31,10 ^ (40:Int).toNat,10 ^ (40:Int).toNat+1,99]) p2 q2
  refine ⟨_,_,_,_,rfl,rfl,SqL.of hq2,hz,?_⟩
  exact k z _ B2 ((X1.trans (Ext.of_same sq)).trans X2)
noncomputable def vx:Sp:=λvs H Q _=>∃(L b:Addr) (tp sz:Int),vs=[.ref b,.int tp,.int sz]/\jC L H b/\tp<=99/\0<=sz/\sz<=100/\∀p H' (hs:List Int),jC L H' b->Ext b H H'->H p=none->H' p=some (.lst (hs.map V.int))->(hs.length:Int)=sz->(∀x∈hs,0<=x/\x<=99)->Q (.ref p) H'
theorem x6:FnScope ["_law_box_here","_law_top","_law_size","_law_pick","_law_step"] ["_law_box_here","_law_top","_law_size"] (j9 qv):=by walk_at "s"
theorem wn {f:Addr}{fd:FuncData}(nb:Nb2 mg) (c_law_take:Cal P w K mg base 2 "_law_take" ["_law_box_here","_law_size"] qU) (F:Fun K "_law_ground_drawn" "_law_ground_drawn" qv f fd):FnOk P w K mg base CX0 3 f fd ["_law_box_here","_law_top","_law_size"] vx:=by
 refine F.ok x6 (λvs H Q E h=>?_) (λcdv A outer s H vs Q E hr h=>?_)
 ·obtain ⟨L,b,tp,sz,rfl,_⟩:=h
  rfl
 ·obtain ⟨L,b,tp,sz,rfl,B,htp,h0,h1,k⟩:=h
  refine ⟨_,(j7 (ju 3 x6.nd (je c_law_take (hr.mono ⋯) rfl (j2 (pv 0) (j2 j6 j5))))
   (j7 (jB (jn qh (pv 3) j6 (jt _)) (jb (jj (jW (osc:=(j9 qv)) (ON:=["_law_box_here","_law_top","_law_size","_law_pick","_law_step"]) (N:=["_law_turn","_law_box_here"]) (own:=1) (caps:=[0]) ⟨rfl,∅,∅,∅,rfl,∅⟩ rfl rfl rfl (qL rfl nb.b_range (j2 (pv 2) j5)) (λ_ _ _ _ _=>(ji (i:=0) (show aZ (["_law_turn","_law_box_here"]:List Str) by decide +kernel) rfl (bb rfl))) (λ_ _ _ _ _=>jH) (λ_ _ _ _ _=>(je c_law_take (hr.mono ⋯) rfl (j2 (pv 1) (j2 j6 j5))))))) jr)
   (j7 (uO (i:=4) x6.nd rfl (lR rfl) (jo qg j6 (je c_law_take (hr.mono ⋯) rfl (j2 (pv 0) (j2 j6 j5)))))
   (jb (jj (jW (osc:=(j9 qv)) (ON:=["_law_box_here","_law_top","_law_size","_law_pick","_law_step"]) (N:=["_law_place","_law_top","_law_step"]) (own:=1) (caps:=[1,4]) ⟨rfl,∅,∅,∅,rfl,∅⟩ rfl rfl rfl (qL rfl nb.b_range (j2 (pv 2) j5)) (λ_ _ _ _ _=>(ji (i:=0) (show aZ (["_law_place","_law_top","_law_step"]:List Str) by decide +kernel) rfl (bb rfl))) (λ_ _ _ _ _=>jH) (λ_ _ _ _ _=>(jd (gq rfl) rfl nb.b_max boot_max (j2 j6 (j2 (jo xo (pv 1) (jo uA (pv 2) (pv 0))) j5)))))))))),?_⟩
  left
  refine ⟨L,b,_,rfl,B,⟨⋯,⋯⟩,λv1 H1 p1 q1 B1 X1=>?_⟩
  left
  refine qo (λ_=>?_) (λ_=>?_)
  ·left
   refine ⟨(),(),λacc hacc=>?_⟩
   have na1:=B1.ne hacc
   have na2:=B1.neL hacc
   refine xD (lo:=0) (n:=sz.toNat) (acc:=acc) (λi σ H2=>∃(x:Option V) (hs:List Int),σ=[x,some (.ref b)]/\jC L H2 b/\H2 acc=some (.lst (hs.map V.int))/\hs.length=i/\(∀x∈hs,0<=x/\x<=99)/\Ext b H1 H2) ?_ ?_ ?_
   ·exact ⟨none,[],rfl,B1.put na1 na2,j8,rfl,(by intro x hx;cases hx),Ext.new hacc⟩
   ·rintro i σ H2 hi ⟨x,hs,rfl,B2,h2,hl,hb,e2⟩
    left
    refine ⟨L,b,_,rfl,B2,⟨⋯,⋯⟩,λv H3 p3 q3 B3 X3=>?_⟩
    have h3:=X3 _ _ h2 na1
    refine ⟨_,h3,by rw [af];exact jh (),_,hs++[v],rfl,B3.put na1 na2,by rw [j8,aC];rfl,by rw [az,hl];rfl,λx hx=>?_,λc o hc n=>?_⟩
    ·rcases List.mem_append.mp hx with hx | hx
     ·exact hb x hx
     ·have:x=v:=by simpa using hx
      omega
    ·rw [ja (j4 hc hacc)]
     exact X3 _ _ (e2 c o hc n) n
   ·rintro σ H2 ⟨x,hs,rfl,B2,h2,hl,hb,e2⟩
    exact k acc H2 hs B2 (X1.trans e2) (X1.free hacc na1) h2 () hb
  ·left
   refine ⟨L,b,_,rfl,B1,⟨⋯,⋯⟩,λv2 H2 p2 q2 B2 X2=>?_⟩
   left
   refine ⟨(),(),λacc hacc=>?_⟩
   have na1:=B2.ne hacc
   have na2:=B2.neL hacc
   refine xD (lo:=0) (n:=sz.toNat) (acc:=acc) (λi σ H3=>∃(x:Option V) (hs:List Int),σ=[x,some (.int tp),some (.int (1+v2))]/\jC L H3 b/\H3 acc=some (.lst (hs.map V.int))/\hs.length=i/\(∀x∈hs,0<=x/\x<=99)/\Ext b H2 H3) ?_ ?_ ?_
   ·exact ⟨none,[],rfl,B2.put na1 na2,j8,rfl,(by intro x hx;cases hx),Ext.new hacc⟩
   ·rintro i σ H3 hi ⟨x,hs,rfl,B3,h3,hl,hb,e3⟩
    left
    have hm:(0:Int)<=(1+v2)*(0+(i:Int)):=Int.mul_nonneg () ()
    refine ⟨_,_,rfl,?_⟩
    refine ⟨_,h3,by rw [af];exact jh (),_,hs++[if tp-(1+v2)*(0+(i:Int)) > 0 then tp-(1+v2)*(0+(i:Int)) else 0],rfl,B3.put na1 na2,by rw [j8,aC];rfl,by rw [az,hl];rfl,λx hx=>?_,λc o hc n=>?_⟩
    ·rcases List.mem_append.mp hx with hx | hx
     ·exact hb x hx
     ·have:x=if tp-(1+v2)*(0+(i:Int)) > 0 then tp-(1+v2)*(0+(i:Int)) else 0:=by simpa using hx
      rw [this]
      split <;> omega
    ·rw [ja (j4 hc hacc)]
     exact e3 c o hc n
   ·rintro σ H3 ⟨x,hs,rfl,B3,h3,hl,hb,e3⟩
    have hacc1:=X2.free hacc na1
    exact k acc H3 hs B3 ((X1.trans X2).trans e3) (X1.free hacc1 na1) h3 () hb
structure RD (L b tp rw dp:Addr) (H0:Hp):Prop where
 tb:tp≠b
 rb:rw≠b
 db:dp≠b
 tL:tp≠L
 rL:rw≠L
 dL:dp≠L
 tr:tp≠rw
 td:tp≠dp
 rd:rw≠dp
 nt:H0 tp=none
 nr:H0 rw=none
 nd:H0 dp=none
structure RG (L b tp rw dp:Addr) (H0 H:Hp) (ts:List Int) (xs:List V) (rs:List Rch) (ds:List Int):Prop where
 box:jC L H b
 htp:H tp=some (.lst (ts.map V.int))
 hrw:H rw=some (.lst xs)
 hdp:H dp=some (.lst (ds.map V.int))
 rows:qe H xs rs
 ext:Ext b H0 H
section
variable {L b tp rw dp:Addr}{H0 H H':Hp}{ts ds:List Int}{xs:List V}{rs:List Rch}
theorem RG.take (D:RD L b tp rw dp H0) (G:RG L b tp rw dp H0 H ts xs rs ds) (B:jC L H' b) (X:Ext b H H'):RG L b tp rw dp H0 H' ts xs rs ds :=
 ⟨B,X _ _ G.htp D.tb,X _ _ G.hrw D.rb,X _ _ G.hdp D.db,G.rows.keep (by obtain ⟨ns,a,r,c,d,h1,_⟩:=G.box;exact jy.lst X h1),G.ext.trans X⟩
theorem RG.same (G:RG L b tp rw dp H0 H ts xs rs ds) (s:jq H H'):RG L b tp rw dp H0 H' ts xs rs ds :=
 ⟨G.box.same s,s _ _ G.htp,s _ _ G.hrw,s _ _ G.hdp,G.rows.keep (jy.same s),G.ext.trans (Ext.of_same s)⟩
theorem RG.extN {a:Addr}(G:RG L b tp rw dp H0 H ts xs rs ds) (hn:H a=none) (e:Ext a H H'):RG L b tp rw dp H0 H' ts xs rs ds:=G.same λc o h=>e c o h (j4 h hn)
theorem RG.putT (D:RD L b tp rw dp H0) (G:RG L b tp rw dp H0 H ts xs rs ds) (ts':List Int):RG L b tp rw dp H0 (upd H tp (.lst (ts'.map V.int))) ts' xs rs ds :=
 ⟨G.box.put D.tb D.tL,j8,by rw [ja D.tr.symm];exact G.hrw,by rw [ja D.td.symm];exact G.hdp,G.rows.keep (jy.lst Ext.put G.htp),λc o h n=>by rw [ja (j4 h D.nt)];exact G.ext c o h n⟩
theorem RG.putR (D:RD L b tp rw dp H0) (G:RG L b tp rw dp H0 H ts xs rs ds) {v:V}{r:Rch}(q:JK H v r):RG L b tp rw dp H0 (upd H rw (.lst (xs++[v]))) ts (xs++[v]) (rs++[r]) ds :=
 ⟨G.box.put D.rb D.rL,by rw [ja D.tr];exact G.htp,j8,by rw [ja D.rd.symm];exact G.hdp,(G.rows.snoc q).keep (jy.lst Ext.put G.hrw),λc o h n=>by rw [ja (j4 h D.nr)];exact G.ext c o h n⟩
theorem RG.putD (D:RD L b tp rw dp H0) (G:RG L b tp rw dp H0 H ts xs rs ds) (ds':List Int):RG L b tp rw dp H0 (upd H dp (.lst (ds'.map V.int))) ts xs rs ds' :=
 ⟨G.box.put D.db D.dL,by rw [ja D.td];exact G.htp,by rw [ja D.rd];exact G.hrw,j8,G.rows.keep (jy.lst Ext.put G.hdp),λc o h n=>by rw [ja (j4 h D.nd)];exact G.ext c o h n⟩
end
noncomputable def xJ (rs:List Rch):List Int:=(aV rs.length).map λi=>jG rs (qA rs i)
theorem QM {rs:List Rch}{t:Int}{hs:List Int}(G:Grown rs) (h0:0<=t) (h1:t<rs.length) (hx:okR rs.length (t,hs)=true):xJ (rs++[(t,hs)])=xJ rs++[jG rs (qA rs t.toNat)+hs.length]:=by
 have Ld:=qp G.ok
 unfold xJ
 rw [az,bf,ez,aC]
 congr 1
 ·apply dO
  intro i hi
  have hi':=List.mem_range.mp hi
  rw [vk Ld hi',xS _ (xZ Ld i hi')]
 ·show [jG (rs++[(t,hs)]) (qA (rs++[(t,hs)]) rs.length)]=[_]
  rw [G.deep_snoc h0 h1 hx]
theorem ZZ {rs:List Rch}{t:Int}(h0:0<=t) (h1:t<rs.length):atI ((xJ rs).map V.int) t=some (.int (jG rs (qA rs t.toNat))):=by
 refine qG h0 ?_
 unfold xJ
 rw [aq,aq,List.getElem?_range ()]
 rfl
theorem VD {i:Nat}{t sz:Int}{hs:List Int}(hi:0<i) (h0:0<=t) (h1:t<i) (hl:(hs.length:Int)=sz) (hz0:1<=sz) (hz1:sz<=12) (hb:∀x∈hs,0<=x/\x<=99):okR i (t,hs)=true:=by
 unfold okR xH
 rw [if_neg (),decide_eq_true (show 0<=t/\t<(i:Int) from ⟨h0,h1⟩),decide_eq_true (show 1<=(hs.length:Int)/\(hs.length:Int)<=12 by omega),eE,eE,bQ]
 intro x hx
 exact decide_eq_true (hb x hx)
noncomputable def kA:Sp:=λvs H Q _=>∃(L b:Addr),vs=[.ref b]/\jC L H b/\∀p H' xs rs,jC L H' b->Ext b H H'->H p=none->H' p=some (.lst xs)->qe H' xs rs->Grown rs->1<=rs.length->rs.length<=8->Q (.ref p) H'
theorem jN:FnScope ["_law_box_here","_law_tops","_law_sizes","_law_rows","_law_deep","_law_number","_law_to","_law_led","_law_heads","_law_size"] ["_law_box_here"] (j9 x9):=by walk_at "s"
theorem UT {v:Int}(a:0<=v) (b:v<3):∃n,atI [V.int 1,V.int 3,V.int 8] v=some (V.int n)/\0<n/\n<=8:=by
 have h:v=0\/v=1\/v=2:=()
 rcases h with rfl | rfl | rfl
 ·exact ⟨1,rfl,(),()⟩
 ·exact ⟨3,rfl,(),()⟩
 ·exact ⟨8,rfl,(),()⟩
theorem Xx {f:Addr}{fd:FuncData}(nb:Nb2 mg) (c_law_take:Cal P w K mg base 2 "_law_take" ["_law_box_here","_law_size"] qU) (c_law_ground_drawn:Cal P w K mg base 3 "_law_ground_drawn" ["_law_box_here","_law_top","_law_size"] vx) (F:Fun K "_law_reaches" "_law_reaches" x9 f fd):FnOk P w K mg base CX0 4 f fd ["_law_box_here"] kA:=by
 refine F.ok jN (λvs H Q E h=>?_) (λcdv A outer s H vs Q E hr h=>?_)
 ·obtain ⟨L,b,rfl,_⟩:=h
  rfl
 ·obtain ⟨L,b,rfl,B,k⟩:=h
  refine ⟨_,(j7 (ju 1 jN.nd (jz (j2 (jo qg j6 (je c_law_take (hr.mono ⋯) rfl (j2 (pv 0) (j2 j6 j5)))) j5)))
   (j7 (ju 2 jN.nd (jz (j2 (jo qg j6 (je c_law_take (hr.mono ⋯) rfl (j2 (pv 0) (j2 j6 j5)))) j5)))
   (j7 (ju 3 jN.nd (jz (j2 (js (j2 (jo xo j6 j6) (j2 (jL (qQ K) rfl nb.b_tuple c8 (j2 (je c_law_ground_drawn (hr.mono ⋯) rfl (j2 (pv 0) (j2 (jk (jf K) (pv 1) j6 (λ_ _=>rfl)) (j2 (jk (jf K) (pv 2) j6 (λ_ _=>rfl)) j5)))) j5)) j5))) j5)))
   (j7 (ju 4 jN.nd (jz (j2 (jk (jf K) (pv 2) j6 (λ_ _=>rfl)) j5)))
   (j7 (xI bG rfl (Yt rfl nb.b_range (j2 j6 (j2 (jo qg j6 (je c_law_take (hr.mono ⋯) rfl (j2 (pv 0) (j2 (jk (jf K) (jz (j2 j6 (j2 j6 (j2 j6 j5)))) (je c_law_take (hr.mono ⋯) rfl (j2 (pv 0) (j2 j6 j5))) (λ_ _=>rfl)) j5)))) j5))) (ji (i:=5) jN.nd rfl (bb rfl)) (j7 (ju 6 jN.nd (je c_law_take (hr.mono ⋯) rfl (j2 (pv 0) (j2 (pv 5) j5))))
   (j7 (uO (i:=7) jN.nd rfl (lR rfl) (jW (osc:=(j9 x9)) (ON:=["_law_box_here","_law_tops","_law_sizes","_law_rows","_law_deep","_law_number","_law_to","_law_led","_law_heads","_law_size"]) (N:=["_law_row"]) (own:=1) (caps:=[]) ⟨rfl,∅,∅,∅,rfl,∅⟩ rfl rfl rfl (qm K (pv 3)) (λ_ _ _ _ _=>(ji (i:=0) (show aZ (["_law_row"]:List Str) by decide +kernel) rfl (bb rfl))) (λ_ _ _ _ _=>jH) (λ_ _ _ _ _=>(jk (jx K) (pv 0) j6 (λ_ _=>rfl)))))
   (j7 (ju 8 jN.nd (jd (jg K) rfl nb.b_len aR (j2 (jW (osc:=(j9 x9)) (ON:=["_law_box_here","_law_tops","_law_sizes","_law_rows","_law_deep","_law_number","_law_to","_law_led","_law_heads","_law_size"]) (N:=["_law_one","_law_led"]) (own:=1) (caps:=[7]) ⟨rfl,∅,∅,∅,rfl,∅⟩ rfl rfl rfl (qL rfl nb.b_range (j2 (pv 5) j5)) (λ_ _ _ _ _=>(ji (i:=0) (show aZ (["_law_one","_law_led"]:List Str) by decide +kernel) rfl (bb rfl))) (λ_ _ _ _ _=>(y6 (jn (zY K) (pv 0) (pv 1) (by with_unfolding_all rfl)))) (λ_ _ _ _ _=>(pv 0))) j5)))
   (qW (jB (PW.pt (zU (jn qh (pv 8) j6 (jt _)) (zK (jn (vM K) (pv 6) (pv 7) (by with_unfolding_all rfl))))) (jb (ju 6 jN.nd (jo xo (pv 5) j6))) jr)
   (jb (jB (jn wc (jk (jf K) (pv 4) (pv 6) (λ_ _=>rfl)) j6 (jt _)) (j7 (ju 9 jN.nd (jo qg j6 (je c_law_take (hr.mono ⋯) rfl (j2 (pv 0) (j2 (jd (uy rfl) rfl nb.b_min sS (j2 j6 (j2 (jo xo j6 (jk (jf K) (pv 4) (pv 6) (λ_ _=>rfl))) j5))) j5)))))
   (j7 (qi (vI K c7 bX bY qM (pv 1) (j2 (jd (uy rfl) rfl nb.b_min sS (j2 j6 (j2 (jo qg (jk (jf K) (pv 1) (pv 6) (λ_ _=>rfl)) (je c_law_take (hr.mono ⋯) rfl (j2 (pv 0) (j2 j6 j5)))) j5))) j5)))
   (j7 (qi (vI K c7 bX bY qM (pv 3) (j2 (js (j2 (pv 6) (j2 (jL (qQ K) rfl nb.b_tuple c8 (j2 (je c_law_ground_drawn (hr.mono ⋯) rfl (j2 (pv 0) (j2 (jk (jf K) (pv 1) (Zs Jz j6) (λ_ _=>rfl)) (j2 (pv 9) j5)))) j5)) j5))) j5)))
   (jb (qi (vI K c7 bX bY qM (pv 4) (j2 (jo qg (jk (jf K) (pv 4) (pv 6) (λ_ _=>rfl)) (pv 9)) j5))))))) (jb (jj (pv 3))))))))))
   (jb (jj (pv 3)))))))),?_⟩
  left
  refine ⟨L,b,_,rfl,B,⟨⋯,⋯⟩,λv1 H1 p1 q1 B1 X1=>?_⟩
  left
  refine ⟨by show 1<=sizeLine;decide,λtp H2 htp htp2 s2=>?_⟩
  have B2:=B1.same s2
  left
  refine ⟨L,b,_,rfl,B2,⟨⋯,⋯⟩,λv2 H3 p3 q3 B3 X3=>?_⟩
  have tb:=B1.ne htp
  have tL:=B1.neL htp
  left
  refine ⟨by show 1<=sizeLine;decide,λsz H4 hsz hsz4 s4=>?_⟩
  have B4:=B3.same s4
  have htp4:=s4 _ _ (X3 _ _ htp2 tb)
  left
  refine ⟨L,b,20+v1,1+v2,rfl,B4,(),(),(),λgl H5 hs B5 X5 hgl hgl5 hl hb=>?_⟩
  have szb:=B3.ne hsz
  have htp5:=X5 _ _ htp4 tb
  have hsz5:=X5 _ _ hsz4 szb
  refine ⟨gl,_,rfl,SqL.of hgl5,λgt H6 hgt hgt6 s6=>?_⟩
  refine ⟨by show 2<=sizeLine;decide,λrt H7 hrt hrt7 s7=>?_⟩
  refine ⟨by show 1<=sizeLine;decide,λrw H8 hrw hrw8 s8=>?_⟩
  have B8:=((B5.same s6).same s7).same s8
  have sm58:jq H5 H8:=(s6.trans s7).trans s8
  have hsz8:=sm58 _ _ hsz5
  have htp8:=sm58 _ _ htp5
  have hrw5:H5 rw=none:=(s6.trans s7).free hrw
  have B7:=(B5.same s6).same s7
  have rb:=B7.ne hrw
  have rL:=B7.neL hrw
  have tr:tp≠rw:=j4 ((s6.trans s7) _ _ htp5) hrw
  left
  refine ⟨by show 1<=sizeLine;decide,λdp H9 hdp hdp9 s9=>?_⟩
  have db:=B8.ne hdp
  have dL:=B8.neL hdp
  have td:tp≠dp:=j4 htp8 hdp
  have rd:rw≠dp:=j4 hrw8 hdp
  have nz:∀a,H8 a=none->a≠b->a≠L->H a=none:=λa ha ab aL=>by
   have a5:=sm58.free ha
   have a4:=X5.free a5 ab
   exact X1.free (s2.free (X3.free (s4.free a4) ab)) ab
  have nt:H tp=none:=X1.free htp tb
  have nr:H rw=none:=X1.free (s2.free (X3.free (s4.free (X5.free hrw5 rb)) rb)) rb
  have nd:H dp=none:=nz dp hdp db dL
  have D:RD L b tp rw dp H:=⟨tb,rb,db,tL,rL,dL,tr,td,rd,nt,nr,nd⟩
  have ok0:uI [((0-1:Int),hs)]=true:=by
   unfold uI okR xH
   simp only [bf,List.range_one,nk,List.all_nil,Bool.and_true]
   show (decide ((0-1:Int) = -1) && decide (1<=(hs.length:Int)/\(hs.length:Int)<=12) && hs.all λx=>decide (0<=x/\x<=99))=true
   rw [decide_eq_true (show 1<=(hs.length:Int)/\(hs.length:Int)<=12 by omega),ba,bQ]
   exact ⟨rfl,λx hx=>decide_eq_true (hb x hx)⟩
  have rd0:qA [((0-1:Int),hs)] 0=[0]:=rfl
  have pl0:jG [((0-1:Int),hs)] [0]=hs.length:=by unfold jG;simp [zX]
  have G0:Grown [((0-1:Int),hs)]:=by
   refine ⟨ok0,aF (bo _ _) (by simp),λi hi=>?_⟩
   have:i=0:=by simp at hi;exact hi
   subst this
   rw [rd0,pl0]
   omega
  have ext8:Ext b H H8:=((((X1.trans (Ext.of_same s2)).trans X3).trans (Ext.of_same s4)).trans X5).trans (Ext.of_same sm58)
  have RG0:RG L b tp rw dp H H9 [20+v1] [.ref rt] [((0-1:Int),hs)] (xJ [((0-1:Int),hs)]):=by
   refine ⟨B8.same s9,s9 _ _ htp8,s9 _ _ hrw8,?_,.cons ⟨rt,gt,rfl,s9 _ _ (s8 _ _ hrt7),s9 _ _ (s8 _ _ (s7 _ _ hgt6))⟩ .nil,ext8.trans (Ext.of_same s9)⟩
   rw [hdp9]
   show some (HO.lst [V.int (1+v2)])=some (.lst [V.int (jG [((0-1:Int),hs)] (qA [((0-1:Int),hs)] 0))])
   rw [rd0,pl0,hl]
  left
  refine ⟨by show 3<=sizeLine;decide,λq3' H10 hq hq10 s10=>?_⟩
  have RG1:=RG0.same s10
  left
  refine ⟨L,b,_,rfl,RG1.box,⟨⋯,⋯⟩,λv3 H11 p11 q11 B11 X11=>?_⟩
  have RG2:=RG1.take D B11 X11
  have hq11:=X11 _ _ hq10 (RG0.box.ne hq)
  obtain ⟨n,hn,n0,n8⟩:=UT p11 q11
  refine ⟨_,_,_,_,rfl,rfl,SqL.of hq11,hn,?_⟩
  refine ⟨L,b,_,rfl,B11,⟨n0,()⟩,λv4 H12 p12 q12 B12 X12=>?_⟩
  have RG3:=RG2.take D B12 X12
  left
  refine ⟨1,1+v4,rfl,⟨(),(),(),()⟩,?_⟩
  have ht99:∀t∈[20+v1],t<=99:=λt ht=>by
   have:t=20+v1:=by simpa using ht
   omega
  have done:∀(H':Hp) ts xs rs ds,RG L b tp rw dp H H' ts xs rs ds->Grown rs->1<=rs.length->rs.length<=8->Q (.ref rw) H':=λH' ts xs rs ds G gr h1 h8=>k rw H' xs rs G.box G.ext nr G.hrw G.rows gr h1 h8
  refine zZ (lo:=1) (n:=(1+v4-1).toNat) (λi σ H'=>∃(v5 v6 v7 v8 v9:Option V) (ts:List Int) (xs:List V) (rs:List Rch),σ=[some (.ref b),some (.ref tp),some (.ref sz),some (.ref rw),some (.ref dp),v5,v6,v7,v8,v9]/\RG L b tp rw dp H H' ts xs rs (xJ rs)/\Grown rs/\rs.length=i+1/\ts.length=i+1/\∀t∈ts,t<=99) ⟨_,_,_,_,_,_,_,_,rfl,RG3,G0,rfl,rfl,ht99⟩ ?_ ?_
  ·rintro i σ H' hi ⟨v5,v6,v7,v8,v9,ts,xs,rs,rfl,G,gr,hrl,htl,htb⟩
   have Ld:=qp gr.ok
   have hxl:=G.rows.length
   left
   refine ⟨L,b,_,rfl,G.box,⟨(),()⟩,λt Ha ha0 ha1 Ba Xa=>?_⟩
   have Ga:=G.take D Ba Xa
   left
   refine ⟨⟨_,SqL.of Ga.hrw⟩,λld hld=>?_⟩
   refine qc (K:=K) (a:=rw) (xs:=xs) (acc:=ld) (λj σ H2=>∃x:Option V,σ=[x]/\H2 ld=some (.lst (((rs.take j).map (·.1)).map V.int))/\Ext ld Ha H2) ?_ ?_ ?_ ?_
   ·exact ⟨none,rfl,j8,Ext.put⟩
   ·rintro j σ H2 hj ⟨x,rfl,h3,e3⟩
    exact SqL.of (e3 _ _ Ga.hrw (j4 Ga.hrw hld))
   ·rintro j v σ H2 hv ⟨x,rfl,h3,e3⟩
    obtain ⟨r,hr,q,g,rfl,hq,hg⟩:=(Ga.rows.keep (jy.new e3 hld)).get hv
    have hj:j<rs.length:=(List.getElem?_eq_some_iff.mp hr).1
    left
    refine ⟨_,h3,by rw [af,af,aT];exact jh (),_,rfl,?_,e3.trans Ext.put⟩
    rw [j8,qE (λr:Rch=>r.1) rs j r hr,aC]
    rfl
   ·rintro σ H2 ⟨x,rfl,h3,e3⟩
    rw [hxl,br] at h3
    have Gb:=Ga.extN hld e3
    left
    refine ⟨(),(),λhd hhd=>?_⟩
    have en:(1+(i:Int)).toNat=rs.length:=()
    refine xD (lo:=0) (n:=(1+(i:Int)).toNat) (acc:=hd) (λj σ H3=>∃(x:Option V) (vs:List V),σ=[x,some (.ref ld)]/\H3 hd=some (.lst vs)/\vs.length=((aV j).filter (jU rs)).length/\Ext hd H2 H3) ?_ ?_ ?_
    ·exact ⟨none,[],rfl,j8,rfl,Ext.put⟩
    ·rintro j σ H3 hj ⟨x,vs,rfl,h4,l4,e4⟩
     have er:((aV (j+1)).filter (jU rs)).length=((aV j).filter (jU rs)).length+(if jU rs j=true then 1 else 0):=by
      rw [ez,cc,az]
      congr 1
      by_cases z:jU rs j=true
      ·rw [if_pos z];simp [z]
      ·rw [if_neg z];simp [z]
     have hfl:((aV j).filter (jU rs)).length<=j:=aF (bo _ _) (by rw [cq];exact av _)
     left
     refine ⟨ld,_,rfl,.inl (SqL.of (e4 _ _ h3 (j4 h3 hhd))),rfl,vc _,?_⟩
     left
     rw [lV,ue]
     refine xb (λhin=>?_) (λhin=>?_)
     ·have hb:jU rs j=true:=by unfold jU;rw [decide_eq_false (show ¬(j:Int)∈tos rs from hin)];rfl
      left
      refine ⟨vs,h4,jh (),_,_,rfl,j8,?_,e4.trans Ext.put⟩
      rw [az,bf,er,if_pos hb,l4]
     ·have hb:¬jU rs j=true:=by unfold jU;rw [decide_eq_true (show (j:Int)∈tos rs from hin)];exact ar
      exact ⟨_,vs,rfl,h4,by rw [er,if_neg hb,l4,Nat.add_zero],e4⟩
    ·rintro σ H3 ⟨x,vs,rfl,h4,l4,e4⟩
     have Gc:=Gb.extN hhd e4
     have hld4:=e4 _ _ h3 (j4 h3 hhd)
     rw [en] at l4
     have l4':vs.length=(jw rs).length:=l4
     refine ⟨_,_,rfl,.inl (SqL.of h4),?_⟩
     refine ⟨λσ H5=>∃t':Int,σ=[some (.ref b),some (.ref tp),some (.ref sz),some (.ref rw),some (.ref dp),some (.int (1+(i:Int))),some (.int t'),some (.ref ld),some (.int vs.length),v9]/\H5=H3/\0<=t'/\t'<rs.length/\(t'∈tos rs->(jw rs).length<6),?_,?_⟩
     ·have hh:=gr.heads
      left
      refine qo (λh6=>?_) (λh6=>?_)
      ·left
       refine ⟨ld,_,rfl,.inl (SqL.of hld4),rfl,vc _,?_⟩
       left
       rw [ue]
       refine qo (λhin=>?_) (λhin=>?_)
       ·left
        refine ⟨(),(),λz=>?_⟩
        have:=Xp Ld z
        omega
       ·exact ⟨t,rfl,rfl,ha0,(),λz=>absurd z hin⟩
      ·have:(jw rs).length<6:=by
        have:(vs.length:Int)≠6:=λz=>h6 (by rw [z])
        omega
       exact ⟨t,rfl,rfl,ha0,(),λ_=>this⟩
     ·rintro σ H5 ⟨t',rfl,rfl,t0,t1,th⟩
      have hde:=ZZ t0 t1
      left
      refine ⟨_,_,_,_,rfl,rfl,SqL.of Gc.hdp,hde,?_⟩
      left
      refine qo (λh30=>?_) (λh30=>?_)
      ·have hdp0:=gr.deep t'.toNat ()
       generalize hdt:jG rs (qA rs t'.toNat)=dt at hde h30 hdp0
       left
       refine ⟨_,_,_,_,rfl,rfl,SqL.of Gc.hdp,hde,?_⟩
       left
       refine ⟨_,_,rfl,?_⟩
       refine ⟨L,b,_,rfl,Gc.box,⟨by split <;> omega,by split <;> omega⟩,λv5' H6 p6 q6 B6 X6=>?_⟩
       have Gd:=Gc.take D B6 X6
       have hz12:1+v5'<=12/\dt+(1+v5')<=30:=by
        have q6':=q6
        split at q6' <;> omega
       left
       refine ⟨.inl ⟨rfl,_,SqL.of Gd.htp⟩,?_⟩
       left
       have hti:t'.toNat<ts.length:=()
       refine ⟨_,_,_,_,rfl,rfl,SqL.of Gd.htp,qG t0 (by rw [aq,ag hti];rfl),?_⟩
       left
       refine ⟨L,b,_,rfl,Gd.box,⟨⋯,⋯⟩,λv6' H7 p7 q7 B7 X7=>?_⟩
       have Ge:=Gd.take D B7 X7
       left
       refine ⟨_,_,rfl,?_⟩
       generalize hnew:(if ts[t'.toNat]'hti+v6'<99 then ts[t'.toNat]'hti+v6' else 99)=new
       have hnew99:new<=99:=by rw [<- hnew];split <;> omega
       left
       refine ⟨tp,_,_,rfl,rfl,Ge.htp,by rw [af];exact jh (),?_⟩
       have Gf:RG L b tp rw dp H (upd H7 tp (.lst (ts.map V.int++[V.int new]))) (ts++[new]) xs rs (xJ rs):=by
        have:=Ge.putT D (ts++[new])
        rw [aC] at this
        exact this
       left
       refine ⟨.inl ⟨rfl,_,SqL.of Gf.hrw⟩,?_⟩
       left
       refine ⟨_,_,_,_,rfl,rfl,SqL.of j8,V2 _ _,?_⟩
       left
       refine ⟨L,b,new,1+v5',rfl,Gf.box,hnew99,(),(),λgl' H8 hs' B8' X8 hgl' hgl8 hl' hb'=>?_⟩
       have Gg:=Gf.take D B8' X8
       refine ⟨gl',_,rfl,SqL.of hgl8,λgt' H9' hgt' hgt9 s9'=>?_⟩
       refine ⟨by show 2<=sizeLine;decide,λrt' H10' hrt' hrt10 s10'=>?_⟩
       have Gh:=(Gg.same s9').same s10'
       left
       refine ⟨rw,_,_,rfl,rfl,Gh.hrw,jh (),?_⟩
       have okn:okR rs.length (t',hs')=true:=VD () t0 t1 hl' () () hb'
       have Gi:=Gh.putR D (v:=.ref rt') (r:=(t',hs')) ⟨rt',gt',rfl,hrt10,s10' _ _ hgt9⟩
       left
       refine ⟨.inl ⟨rfl,_,SqL.of Gi.hdp⟩,?_⟩
       left
       refine ⟨_,_,_,_,rfl,rfl,SqL.of Gi.hdp,hde,?_⟩
       left
       have hdl:(xJ rs).length=rs.length:=by unfold xJ;simp
       refine ⟨dp,_,_,rfl,rfl,Gi.hdp,by rw [af];exact jh (),?_⟩
       have Gj:RG L b tp rw dp H (upd (upd H10' rw (.lst (xs++[.ref rt']))) dp (.lst ((xJ rs).map V.int++[V.int (dt+(1+v5'))]))) (ts++[new]) (xs++[.ref rt']) (rs++[(t',hs')]) (xJ (rs++[(t',hs')])):=by
        have:=Gi.putD D (xJ rs++[dt+(1+v5')])
        rw [aC] at this
        rw [QM gr t0 t1 okn,hdt,hl']
        exact this
       refine ⟨_,_,_,_,_,_,_,_,rfl,Gj,gr.snoc t0 t1 okn th (by rw [hdt];omega),by rw [az,hrl];rfl,by rw [az,htl];rfl,λt ht=>?_⟩
       rcases List.mem_append.mp ht with ht | ht
       ·exact htb t ht
       ·have:t=new:=by simpa using ht
        omega
      ·left
       exact done _ _ _ _ _ Gc gr () ()
  ·rintro σ H' ⟨v5,v6,v7,v8,v9,ts,xs,rs,rfl,G,gr,hrl,htl,htb⟩
   left
   exact done _ _ _ _ _ G gr () ()
noncomputable def ZL (t:TE):Prop:=∀σ H Q Q',(∀v H,Q v H->Q' v H)->t σ H Q->t σ H Q'
noncomputable def Vp (r:R2):Prop:=∀x y H Q Q',(∀v H,Q v H->Q' v H)->r x y H Q->r x y H Q'
theorem Zi (i:Nat):ZL (y4 i):=λ_ _ _ _ h ⟨v,e,q⟩=>⟨v,e,h _ _ q⟩
theorem Zp (v:V):ZL (tC v):=λ_ _ _ _ h q=>h _ _ q
theorem wD {r:R2}{ta tb:TE}(hr:Vp r) (ha:ZL ta) (hb:ZL tb):ZL (tOp r ta tb):=λσ H Q Q' h q=>ha σ H _ _ (λx H1 q1=>hb σ H1 _ _ (λy H2 q2=>hr x y H2 _ _ h q2) q1) q
theorem Ze (K:ai):Vp (Wi K):=λ_ _ _ _ _ h ⟨a,xs,i,v,e1,e2,e3,e4,q⟩=>⟨a,xs,i,v,e1,e2,e3,e4,h _ _ q⟩
theorem VL (K:ai):Vp (W5 K):=λ_ _ _ _ _ h ⟨a,xs,i,v,e1,e2,e3,e4,q⟩=>⟨a,xs,i,v,e1,e2,e3,e4,h _ _ q⟩
theorem Wk (g:Int->Int->V):Vp (rI0 g):=λ_ _ _ _ _ h ⟨i,j,e1,e2,q⟩=>⟨i,j,e1,e2,h _ _ q⟩
theorem W9:Vp rNe:=λ_ _ _ _ _ h ⟨e,q⟩=>⟨e,h _ _ q⟩
theorem Vt {t:TE}(ht:ZL t):∀σ H Q Q',(∀b H1,Q b H1->Q' b H1)->Q6 t σ H Q->Q6 t σ H Q':=λσ H Q Q' h q=>ht σ H _ _ (λ_ _ ⟨k,e,q⟩=>⟨k,e,h _ _ q⟩) q
theorem Qp {α:Type}{x:α}{l:List α}:atI (x::l) 0=some x:=vm (j:=0) rfl
noncomputable def vR (fd:Addr) (H:Hp) (vs:List V) (rows:List (List Int)):Prop:=dJ (λv (r:List Int)=>∃a,v=V.ref a/\a≠fd/\H a=some (.lst (r.map V.int))) vs rows
theorem vR.ext {fd:Addr}{H H':Hp}{vs:List V}{rows:List (List Int)}(h:vR fd H vs rows) (e:Ext fd H H'):vR fd H' vs rows:=Paired.mapP h λ_ _ ⟨a,e1,n,q⟩=>⟨a,e1,n,e _ _ q n⟩
theorem vR.rowsI {fd:Addr}{H:Hp}{vs:List V}{rows:List (List Int)}(h:vR fd H vs rows):yx H vs rows:=Paired.mapP h λ_ _ ⟨a,e1,n,q⟩=>⟨a,e1,q⟩
theorem wz {H:Hp}{vs:List V}{ws:List (List Int)}(h:yx H vs ws):∀ix:List Nat,(∀i∈ix,i<vs.length)->yx H (ix.map λi=>vs.getD i V.non) (ix.map λi=>ws.getD i [])
 | [],_=>.nil
 | i::ix,hb=>by
  refine .cons ?_ (wz h ix λj hj=>hb j (aK _ hj))
  have hi:=hb i bh
  obtain ⟨y,e2,a,e3,e4⟩:=Paired.get h (ag hi)
  refine ⟨a,?_,?_⟩
  ·show vs.getD i V.non=V.ref a
   rw [ao,ag hi];exact e3
  ·show H a=some (.lst ((ws.getD i []).map V.int))
   rw [ao,e2];exact e4
noncomputable def Qg (K:ai):Sp:=λvs H Q _=>∃(p:Addr) (xs:List V) (rs:List Rch),vs=[.ref p]/\H p=some (.lst xs)/\qe H xs rs/\xi rs/\rs.length<=60/\∀l H' out ws,H l=none->H' l=some (.lst out)->yx H' out ws->qj rs ws->jq H H'->Q (.ref l) H'
theorem qR:FnScope ["_law_reaches_here","_law_led","_law_found","_law_head","_law_road"] ["_law_reaches_here"] (j9 xT):=by walk_at "s"
theorem V8 {f:Addr}{fd:FuncData}(nb:Nb2 mg) (F:Fun K "_law_roads" "_law_roads" xT f fd):FnOk P w K mg base CX0 1 f fd ["_law_reaches_here"] (Qg K):=by
 refine F.ok qR (λvs H Q E h=>?_) (λcdv A outer s H vs Q E hr h=>?_)
 ·obtain ⟨p,xs,rs,rfl,_⟩:=h
  rfl
 ·obtain ⟨p,xs,rs,rfl,hp,hrw,L,h60,k⟩:=h
  have hlen:=hrw.length
  refine ⟨_,(j7 (ww (j:=1) (osc:=(j9 xT)) (ON:=["_law_reaches_here","_law_led","_law_found","_law_head","_law_road"]) (N:=["_law_to","_law_ground_here"]) (own:=2) (caps:=[]) ⟨rfl,∅,∅,∅,rfl,∅⟩ qR.nd rfl (bb rfl) rfl rfl rfl (qm K (pv 0)) (λ_ _ _ _ _=>(xB (n:=2) K rfl (jE (ji (i:=0) (show aZ (["_law_to","_law_ground_here"]:List Str) by decide +kernel) rfl (bb rfl)) (jE (ji (i:=1) (show aZ (["_law_to","_law_ground_here"]:List Str) by decide +kernel) rfl (bb rfl)) qV)))) (λ_ _ _ _ _=>jH) (λ_ _ _ _ _=>(pv 0)))
   (j7 (ju 2 qR.nd (jz j5))
   (j7 (xI bG rfl (qL rfl nb.b_range (j2 (jd (jg K) rfl nb.b_len aR (j2 (pv 0) j5)) j5)) (ji (i:=3) qR.nd rfl (bb rfl)) (jb (jB (jn (zY K) (pv 3) (pv 1) (by with_unfolding_all rfl)) (j7 (ju 4 qR.nd (jz (j2 (pv 3) j5)))
   (j7 (Qv bG (jn Vs (jk (jx K) (jk (jf K) (pv 0) (jk (jf K) (pv 4) j6 (λ_ _=>rfl)) (λ_ _=>rfl)) j6 (λ_ _=>rfl)) (jo xo j6 j6) (jt _)) (jb (ju 4 qR.nd (jo qX (jz (j2 (jk (jx K) (jk (jf K) (pv 0) (jk (jf K) (pv 4) j6 (λ_ _=>rfl)) (λ_ _=>rfl)) j6 (λ_ _=>rfl)) j5)) (pv 4)))))
   (jb (qi (vI K c7 bX bY qM (pv 2) (j2 (pv 4) j5)))))) jr)))
   (jb (jj (jW (osc:=(j9 xT)) (ON:=["_law_reaches_here","_law_led","_law_found","_law_head","_law_road"]) (N:=["_law_road"]) (own:=1) (caps:=[]) ⟨rfl,∅,∅,∅,rfl,∅⟩ rfl rfl rfl (qm K (jd (kK K hr.units) rfl nb.b_sorted pL (j2 (pv 2) j5))) (λ_ _ _ _ _=>(ji (i:=0) (show aZ (["_law_road"]:List Str) by decide +kernel) rfl (bb rfl))) (λ_ _ _ _ _=>jH) (λ_ _ _ _ _=>(U9 K (pv 0))))))))),?_⟩
  left
  refine ⟨⟨_,SqL.of hp⟩,λen hen=>?_⟩
  refine qc (K:=K) (a:=p) (xs:=xs) (acc:=en) (λj σ H2=>∃x y:Option V,σ=[x,y]/\H2 en=some (.lst (((rs.take j).map (·.1)).map V.int))/\Ext en H H2) ?_ ?_ ?_ ?_
  ·exact ⟨none,none,rfl,j8,Ext.put⟩
  ·rintro j σ H2 hj ⟨x,y,rfl,h3,e3⟩
   exact SqL.of (e3 _ _ hp (j4 hp hen))
  ·rintro j v σ H2 hv ⟨x,y,rfl,h3,e3⟩
   obtain ⟨r,hr,q,g,rfl,hq,hg⟩:=(hrw.keep (jy.new e3 hen)).get hv
   have hj:j<rs.length:=(List.getElem?_eq_some_iff.mp hr).1
   left
   refine ⟨q,_,rfl,SqT.of hq,rfl,?_⟩
   refine ⟨_,_,rfl,_,_,rfl,rfl,?_⟩
   left
   refine ⟨_,h3,by rw [af,af,aT];exact jh (),_,_,rfl,?_,e3.trans Ext.put⟩
   rw [j8,qE (λr:Rch=>r.1) rs j r hr,aC]
   rfl
  ·rintro σ H2 ⟨x,y,rfl,h3,e3⟩
   rw [hlen,br] at h3
   have sm2:jq H H2:=λc o hc=>e3 c o hc (j4 hc hen)
   left
   refine ⟨aO _,λfo H3 hfo hfo3 s3=>?_⟩
   have hp3:=s3 _ _ (sm2 _ _ hp)
   have hrw3:qe H3 xs rs:=hrw.keep (jy.same (sm2.trans s3))
   have hen3:=s3 _ _ h3
   have hfoH:H fo=none:=sm2.free hfo
   left
   refine ⟨_,_,rfl,.inl (SqL.of hp3),?_⟩
   refine ⟨_,rfl,(),(),?_⟩
   rw [hlen]
   refine zZ (lo:=0) (n:=((rs.length:Nat):Int).toNat) (λj σ H4=>∃(v3 v4:Option V) (vs:List V),σ=[some (.ref p),some (.ref en),some (.ref fo),v3,v4]/\H4 fo=some (.lst vs)/\vR fo H4 vs (((aV j).filter (jU rs)).map λh=>(qA rs h).reverse)/\Ext fo H3 H4/\vs.length<=j) ?_ ?_ ?_
   ·exact ⟨_,_,[],rfl,hfo3,.nil,Ext.refl,av _⟩
   ·rintro j σ H4 hj ⟨v3,v4,vs,rfl,h4,w4,e4,l4⟩
    have hj':j<rs.length:=()
    have kt4:jy H3 H4:=jy.lst e4 hfo3
    have hen4:=e4 _ _ hen3 (j4 h3 hfo)
    have hp4:=e4 _ _ hp3 (j4 (sm2 _ _ hp) hfo)
    have hrw4:qe H4 xs rs:=hrw3.keep kt4
    have er:(aV (j+1)).filter (jU rs)=(aV j).filter (jU rs)++(if jU rs j=true then [j] else []):=by
     rw [ez,cc]
     congr 1
     by_cases z:jU rs j=true
     ·rw [if_pos z];simp [z]
     ·rw [if_neg z];simp [z]
    left
    refine ⟨en,_,rfl,.inl (SqL.of hen4),rfl,vc _,?_⟩
    left
    rw [lV,ue]
    refine xb (λhin=>?_) (λhin=>?_)
    ·have hb:jU rs j=true:=by unfold jU;rw [decide_eq_false (show ¬(j:Int)∈tos rs from hin)];rfl
     left
     refine ⟨by show 1<=sizeLine;decide,λr0 H5 hr0 hr05 s5=>?_⟩
     left
     refine Qf (λσ H6=>∃(a:Addr) (r:Nat) (l:List Int),σ=[some (.ref p),some (.ref en),some (.ref fo),some (.int (j:Int)),some (.ref a)]/\jq H4 H6/\H4 a=none/\H6 a=some (.lst (((r:Int)::l).map V.int))/\r<rs.length/\l.length+r<=100/\l.reverse++qA rs r=qA rs j) (λσ H6=>match σ with | [_,_,_,_,some (.ref a)]=>(match H6 a with | some (.lst (.int r::_))=>r.toNat | _=>0) | _=>0) ?_ ?_ ?_
     ·exact ⟨r0,j,[],rfl,s5,hr0,hr05,hj',by simp;omega,rfl⟩
     ·rintro σ H6 ⟨a,r,l,rfl,s6,ha4,ha6,hrl,hll,heq⟩
      have hp6:=s6 _ _ hp4
      obtain ⟨v,hv,q,g,rfl,hq,hg⟩:=(hrw4.keep (jy.same s6)).at (ag hrl)
      have ht:=L.lt hrl
      have hl3:=kE (L _ hrl)
      have et:=JF (ag hrl)
      rw [et] at ht hl3
      generalize (rs[r]'hrl).1=tt at ht hl3 et hq
      left
      refine ⟨_,_,_,_,rfl,rfl,SqL.of ha6,Qp,?_⟩
      refine ⟨_,_,_,_,rfl,rfl,SqL.of hp6,vm hv,?_⟩
      refine ⟨_,_,_,_,rfl,rfl,SqT.of hq,rfl,?_⟩
      left
      refine xb (λhne=>?_) (λhne=>?_)
      ·have htt:0<=tt:=by
        have:tt ≠ -1:=λz=>hne (by rw [z];rfl)
        omega
       left
       refine ⟨_,_,_,_,rfl,rfl,SqL.of ha6,Qp,?_⟩
       refine ⟨_,_,_,_,rfl,rfl,SqL.of hp6,vm hv,?_⟩
       refine ⟨_,_,_,_,rfl,rfl,SqT.of hq,rfl,?_⟩
       refine ⟨by show 1<=sizeLine;decide,λc1 H7 hc1 hc17 s7=>?_⟩
       left
       refine ⟨c1,a,_,_,rfl,rfl,hc17,s7 _ _ ha6,?_,λc2 H8 hc2 hc28 s8=>?_⟩
       ·show 1+(((r:Int)::l).map V.int).length<=sizeLine
        rw [af,bq]
        exact cV (jh ())
       ·have ett:tt=((tt.toNat:Nat):Int):=()
        refine ⟨⟨c2,tt.toNat,(r:Int)::l,rfl,(s6.trans s7).trans s8,(s6.trans s7).free hc2,?_,(),?_,?_⟩,?_⟩
        ·rw [hc28,ett]
         simp only [bL]
         rfl
        ·rw [bq];omega
        ·rw [iX,fP,<- heq,zG L hrl,et,if_neg ()]
         rfl
        ·show (match H8 c2 with | some (.lst (.int r::_))=>r.toNat | _=>0)<(match H6 a with | some (.lst (.int r::_))=>r.toNat | _=>0)
         rw [hc28,ha6]
         show tt.toNat<((r:Int)).toNat
         omega
      ·have htm:tt = -1:=V.int.inj hne
       have hfo6:=s6 _ _ h4
       left
       refine ⟨.inl ⟨rfl,_,SqL.of hfo6⟩,?_⟩
       left
       refine ⟨fo,_,_,rfl,rfl,hfo6,jh (),?_⟩
       have naf:a≠fo:=λz=>by rw [z,h4] at ha4;cases ha4
       refine ⟨_,_,vs++[.ref a],rfl,j8,?_,λc o hc n=>by rw [ja n];exact s6 _ _ (e4 c o hc n),by rw [az,bf];omega⟩
       rw [er,if_pos hb,aC]
       refine vR.ext (dh (w4.ext (Ext.of_same s6)) ⟨a,rfl,naf,?_⟩) Ext.put
       show H6 a=some (.lst (((qA rs j).reverse).map V.int))
       rw [ha6,<- heq,zG L hrl,et,if_pos (),List.reverse_append,eP]
       rfl
     ·exact Vt (wD W9 (wD (VL K) (wD (Ze K) (Zi 0) (wD (Ze K) (Zi 4) (Zp _))) (Zp _)) (wD (Wk _) (Zp _) (Zp _)))
    ·have hb:¬jU rs j=true:=by unfold jU;rw [decide_eq_true (show (j:Int)∈tos rs from hin)];exact ar
     refine ⟨_,_,vs,rfl,h4,?_,e4,()⟩
     rw [er,if_neg hb,aP]
     exact w4
   ·rintro σ H4 ⟨v3,v4,vs,rfl,h4,w4,e4,l4⟩
    rw [bL] at w4 l4
    have sm4:jq H H4:=λc o hc=>e4 _ _ (s3 _ _ (sm2 _ _ hc)) (j4 hc hfoH)
    left
    refine ⟨fo,vs,_,rfl,SqL.of h4,(),w4.rowsI,λso H5 out hso hso5 s5 hs=>?_⟩
    obtain ⟨ix,hpx,eo,hpw⟩:=hs
    have hvl:vs.length=(jw rs).length:=by rw [aX w4,af];rfl
    have hb:∀i∈ix,i<vs.length:=λi hi=>by have:=hpx.mem_iff.mp hi;simpa using this
    have hri:=wz (w4.rowsI) ix hb
    have hw5:yx H5 out (ix.map λi=>(((jw rs).map λh=>(qA rs h).reverse).getD i [])):=by
     rw [eo]
     exact Paired.mapP hri λ_ _ ⟨a,e1,q⟩=>⟨a,e1,s5 _ _ q⟩
    have hol:out.length<=60:=by rw [eo,af,hpx.length_eq,cq];omega
    generalize hrv:(ix.map λi=>(((jw rs).map λh=>(qA rs h).reverse).getD i []))=rv at hw5
    have hrvl:=aX hw5
    have isr:qj rs (rv.map cK):=by
     refine ⟨?_,?_⟩
     ·have h1:=hpx.map λi=>(((jw rs).map λh=>(qA rs h).reverse).getD i [])
      rw [hvl,show (jw rs).length=((jw rs).map λh=>(qA rs h).reverse).length by rw [af],QE,hrv] at h1
      have h2:=h1.map cK
      rw [bO] at h2
      refine h2.trans (List.Perm.of_eq (dO λx _=>?_))
      exact eP _
     ·rw [bO,show (cK ∘ cK:List Int->List Int)=id from funext λx=>eP x,mE,<- hrv]
      exact hpw
    refine ⟨so,rfl,⟨_,SqL.of hso5⟩,λacc hacc=>?_⟩
    refine qc (K:=K) (a:=so) (xs:=out) (acc:=acc) (λj σ H6=>∃(x:Option V) (us:List V),σ=[x]/\H6 acc=some (.lst us)/\vR acc H6 us ((rv.take j).map cK)/\Ext acc H5 H6/\us.length=j) ?_ ?_ ?_ ?_
    ·exact ⟨none,[],rfl,j8,.nil,Ext.put,rfl⟩
    ·rintro j σ H6 hj ⟨x,us,rfl,h6,w6,e6,l6⟩
     exact SqL.of (e6 _ _ hso5 (j4 hso5 hacc))
    ·rintro j v σ H6 hv ⟨x,us,rfl,h6,w6,e6,l6⟩
     obtain ⟨y,e2,a,rfl,ha⟩:=Paired.get hw5 hv
     have hj:j<rv.length:=(List.getElem?_eq_some_iff.mp e2).1
     left
     refine ⟨a,_,rfl,SqL.of (e6 _ _ ha (j4 ha hacc)),λq H7 hq hq7 s7=>?_⟩
     have h7:=s7 _ _ h6
     have nq:q≠acc:=λz=>by rw [z,h6] at hq;cases hq
     refine ⟨us,h7,jh (),_,us++[.ref q],rfl,j8,?_,λc o hc n=>by rw [ja n];exact s7 _ _ (e6 c o hc n),by rw [az,l6];rfl⟩
     rw [qE cK rv j y e2]
     refine vR.ext (dh (w6.ext (Ext.of_same s7)) ⟨q,rfl,nq,?_⟩) Ext.put
     rw [hq7,px]
    ·rintro σ H6 ⟨x,us,rfl,h6,w6,e6,l6⟩
     rw [hrvl,br] at w6
     exact k acc H6 us _ (sm4.free (s5.free hacc)) h6 w6.rowsI isr λc o hc=>e6 _ _ (s5 _ _ (sm4 _ _ hc)) (j4 (s5 _ _ (sm4 _ _ hc)) hacc)
noncomputable def jm (rs:List Rch) (way:List Int):List Int:=(way.map λr=>zX rs r.toNat).flatten
theorem kz (rs:List Rch):∀way:List Int,((jm rs way).length:Int)=jG rs way
 | []=>rfl
 | r::way=>by
  rw [x8,<- kz rs way]
  unfold jm
  rw [b8,iY,az]
  push_cast
  rfl
theorem UX {n:Nat}(h:n<=100000):n<sizeLine:=bI h ⋯
theorem uV (rs:List Rch) (way:List Int) (j:Nat) (r:Int) (h:way[j]? = some r):jm rs (way.take (j+1))=jm rs (way.take j)++zX rs r.toNat:=by
 unfold jm
 rw [bE,h,aC,List.flatten_append]
 congr 1
 show [zX rs r.toNat].flatten=_
 simp
theorem uJ {rs:List Rch}(h100:∀r∈rs,r.2.length<=100):∀way:List Int,(jm rs way).length<=100*way.length
 | []=>by unfold jm;simp
 | r::way=>by
  have ih:=uJ h100 way
  have h1:(zX rs r.toNat).length<=100:=by
   unfold zX
   rw [ao]
   cases e:rs[r.toNat]? with
   | none=>simp
   | some q=>exact h100 q (au e)
  unfold jm at ih ⊢
  rw [b8,iY,az,bq]
  omega
noncomputable def JW (K:ai):Sp:=λvs H Q _=>∃(p a:Addr) (xs:List V) (rs:List Rch) (way:List Int),vs=[.ref p,.ref a]/\H p=some (.lst xs)/\qe H xs rs/\(∀r∈rs,r.2.length<=100)/\H a=some (.lst (way.map V.int))/\(∀r∈way,0<=r/\r<rs.length)/\way.length<=100/\∀l H',H l=none->H' l=some (.lst ((jm rs way).map V.int))->jq H H'->Q (.ref l) H'
theorem xQ:FnScope ["_law_reaches_here","_law_road","_law_found","_law_reach","_law_height"] ["_law_reaches_here","_law_road"] (j9 yp):=by walk_at "s"
theorem Ys {f:Addr}{fd:FuncData}(F:Fun K "_law_ground" "_law_ground" yp f fd):FnOk P w K mg base CX0 1 f fd ["_law_reaches_here","_law_road"] (JW K):=by
 refine F.ok xQ (λvs H Q E h=>?_) (λcdv A outer s H vs Q E hr h=>?_)
 ·obtain ⟨p,a,xs,rs,way,rfl,_⟩:=h
  rfl
 ·obtain ⟨p,a,xs,rs,way,rfl,hp,hrw,h100,ha,hin,hwl,k⟩:=h
  have hlen:=hrw.length
  refine ⟨_,(j7 (ju 2 xQ.nd (jz j5))
   (j7 (xI bG rfl (qm K (pv 1)) (ji (i:=3) xQ.nd rfl (bb rfl)) (jb (xI bG rfl (vW K (jk (jx K) (jk (jf K) (pv 0) (pv 3) (λ_ _=>rfl)) j6 (λ_ _=>rfl))) (ji (i:=4) xQ.nd rfl (bb rfl)) (jb (qi (vI K c7 bX bY qM (pv 2) (j2 (pv 4) j5)))))))
   (jb (jj (pv 2))))),?_⟩
  left
  refine ⟨aO _,λfo H1 hfo hfo1 s1=>?_⟩
  have ha1:=s1 _ _ ha
  left
  refine ⟨⟨_,SqL.of ha1⟩,kI (K:=K) (a:=a) (xs:=way.map V.int) (λj σ H2=>∃x y:Option V,σ=[some (.ref p),some (.ref a),some (.ref fo),x,y]/\H2 fo=some (.lst ((jm rs (way.take j)).map V.int))/\Ext fo H1 H2) ⟨_,_,rfl,hfo1,Ext.refl⟩ ?_ ?_ ?_⟩
  ·rintro j σ H2 hj ⟨x,y,rfl,h2,e2⟩
   exact SqL.of (e2 _ _ ha1 (j4 ha hfo))
  ·rintro j v σ H2 hv ⟨x,y,rfl,h2,e2⟩
   obtain ⟨r,rfl⟩:=yP hv
   have hz:way[j]? = some r:=by
    rw [aq] at hv
    cases e:way[j]? with
    | none=>rw [e] at hv;cases hv
    | some y=>rw [e] at hv;cases hv;rfl
   have hj:j<way.length:=(List.getElem?_eq_some_iff.mp hz).1
   have hr:=hin r (au hz)
   have hi:r.toNat<rs.length:=()
   obtain ⟨v,hv',q,g,rfl,hq,hg⟩:=(hrw.keep ((jy.same s1).trans (jy.lst e2 hfo1))).at (ag hi)
   have hsl:=h100 _ (bW hi)
   have hgl:=uJ h100 (way.take j)
   have htl:(way.take j).length<=100:=by rw [aT];omega
   left
   refine ⟨_,_,_,_,rfl,rfl,SqL.of (e2 _ _ (s1 _ _ hp) (j4 hp hfo)),qG hr.1 hv',?_⟩
   refine ⟨_,_,_,_,rfl,rfl,SqT.of hq,rfl,?_⟩
   refine ⟨g,rfl,⟨_,SqT.of hg⟩,VN (K:=K) (a:=g) (xs:=(rs[r.toNat]'hi).2.map V.int) (λi σ H3=>∃y:Option V,σ=[some (.ref p),some (.ref a),some (.ref fo),some (.int r),y]/\H3 fo=some (.lst ((jm rs (way.take j)++(rs[r.toNat]'hi).2.take i).map V.int))/\Ext fo H2 H3) ⟨_,rfl,?_,Ext.refl⟩ ?_ ?_ ?_⟩
   ·rw [rT,aP];exact h2
   ·rintro i σ H3 hi3 ⟨y,rfl,h3,e3⟩
    exact SqT.of (jy.lst e3 h2 _ _ hg)
   ·rintro i v σ H3 hv3 ⟨y,rfl,h3,e3⟩
    obtain ⟨z,rfl⟩:=yP hv3
    have hz3:(rs[r.toNat]'hi).2[i]? = some z:=by
     rw [aq] at hv3
     cases e:(rs[r.toNat]'hi).2[i]? with
     | none=>rw [e] at hv3;cases hv3
     | some y=>rw [e] at hv3;cases hv3;rfl
    left
    refine ⟨.inl ⟨rfl,_,SqL.of h3⟩,?_⟩
    left
    refine ⟨fo,_,_,rfl,rfl,h3,?_,?_⟩
    ·rw [af,az,aT]
     exact UX ()
    ·refine ⟨_,rfl,?_,e3.trans Ext.put⟩
     rw [j8,bE,hz3,<- fP,aC,aC,aC]
     rfl
   ·rintro σ H3 ⟨y,rfl,h3,e3⟩
    refine ⟨_,_,rfl,?_,e2.trans e3⟩
    rw [h3,af,br,uV rs way j r hz,JM (ag hi)]
  ·rintro σ H2 ⟨x,y,rfl,h2,e2⟩
   rw [af,br] at h2
   left
   exact k fo H2 hfo h2 λc o hc=>e2 _ _ (s1 _ _ hc) (j4 hc hfo)
noncomputable def ZF (Pt C:Addr):Sp:=λvs H Q E=>∃(p:Addr) (xs:List V) (rs:List Rch) (l:Int),vs=[.ref p,.int l]/\H p=some (.lst xs)/\qe H xs rs/\xi rs/\rs.length<=60/\qI H Pt /\
 (∀t H' ws (i:Nat),l=i->i<ws.length->qj rs ws->H' t=some (.tup ((ws.getD i []).map V.int))->Ext Pt H H'->qI H' Pt->Q (.ref t) H')/\∀H',(l<0\/((jw rs).length:Int)<=l)->Ext Pt H H'->qI H' Pt->E (.ref C) none H'
theorem J4:FnScope ["reaches","lane","ways"] ["reaches","lane"] (j9 wF):=by walk_at "s"
theorem Y0 {f Pt C:Addr}{fd:FuncData}(nb:Nb2 mg) (e_NoLane:mg "NoLane" = some (.ref C)) (x_NoLane:cZ K C [.type "ValueError",.type "Exception",.type "BaseException",.type "object"] "ValueError.__new__" = true) (c_lanes:Cal P w K mg base 5 "lanes" ["reaches"] (vV K Pt)) (F:Fun K "way_of" "way_of" wF f fd):FnOk P w K mg base (CX1 P w) 6 f fd ["reaches","lane"] (ZF Pt C):=by
 refine Fun.okX F J4 (λvs H Q E h=>?_) (λcdv A outer s H vs Q E hr h=>?_)
 ·obtain ⟨p,xs,rs,l,rfl,_⟩:=h
  rfl
 ·obtain ⟨p,xs,rs,l,rfl,hp,hrw,L,h60,hT,k,kx⟩:=h
  refine ⟨_,(j7 (ju 2 J4.nd (je c_lanes (hr.mono ⋯) rfl (j2 (pv 0) j5)))
   (j7 (jB (qy (qC jS wc j6 (pv 1) (jd (jg K) rfl nb.b_len aR (j2 (pv 2) j5)))) (jb (xc bA x_NoLane e_NoLane rfl xN rfl (j2 jc j5))) jr)
   (jb (jj (jk (jf K) (pv 2) (pv 1) (λ_ _=>rfl)))))),?_⟩
  left
  refine ⟨p,xs,rs,rfl,hp,hrw,L,h60,hT,λo H1 out ws ho ho1 hw hR X1 T1=>?_⟩
  have hlen:out.length=ws.length:=hw.length
  have hws:(ws.length:Int)=((jw rs).length:Int):=by rw [hR.length]
  left
  refine qo (λh0=>?_) (λh0=>?_)
  ·left
   refine ⟨_,_,rfl,.inl (SqL.of ho1),?_⟩
   left
   refine xb (λh1=>?_) (λh1=>?_)
   ·left
    exact ⟨by show 1<=sizeLine;decide,kx H1 (.inr ()) X1 T1⟩
   ·have hi:l.toNat<out.length:=()
    obtain ⟨wy,hwy,a,hov,ha⟩:=Paired.get hw (ag hi)
    have el:l=(l.toNat:Int):=()
    left
    refine ⟨_,_,_,_,rfl,rfl,SqL.of ho1,(by rw [el];exact vm (ag hi)),?_⟩
    rw [hov]
    refine k a H1 ws l.toNat el () hR ?_ X1 T1
    rw [ha,ao,hwy]
    rfl
  ·left
   refine zF ?_
   left
   exact ⟨by show 1<=sizeLine;decide,kx H1 (.inl ()) X1 T1⟩
noncomputable def gY (Pt C:Addr):Sp:=λvs H Q E=>∃(p:Addr) (xs:List V) (rs:List Rch) (l:Int),vs=[.ref p,.int l]/\H p=some (.lst xs)/\qe H xs rs/\xi rs/\rs.length<=60/\(∀r∈rs,r.2.length<=100)/\qI H Pt /\
 (∀t H' ws (i:Nat),l=i->i<ws.length->qj rs ws->H t=none->H' t=some (.lst ((jm rs (ws.getD i [])).map V.int))->Ext Pt H H'->qI H' Pt->Q (.ref t) H')/\∀H',(l<0\/((jw rs).length:Int)<=l)->Ext Pt H H'->qI H' Pt->E (.ref C) none H'
theorem Xk:FnScope ["reaches","lane"] ["reaches","lane"] (j9 vn):=by walk_at "s"
theorem UO {rs:List Rch}{ws:List (List Int)}(L:xi rs) (h:qj rs ws) {a:Nat}(ha:a<ws.length):(∀r∈ws.getD a [],0<=r/\r<rs.length)/\(ws.getD a []).length<=rs.length:=by
 rw [ao,ag ha]
 obtain ⟨x,hx,e⟩:=h.mem (bW ha)
 show (∀r∈ws[a],_)/\ws[a].length<=_
 rw [e]
 exact ⟨xZ L x (xA hx),by have:=ui L x (xA hx);have:=xA hx;omega⟩
theorem vJ {l:List Int}{j:Nat}{v:V}(h:(l.map V.int)[j]? = some v):∃x,v = .int x/\l[j]? = some x:=by
 rw [aq] at h
 cases e:l[j]? with
 | none=>rw [e] at h;cases h
 | some y=>rw [e] at h;cases h;exact ⟨y,rfl,rfl⟩
theorem QB {H H':Hp}{Pt a:Addr}(T:qI H Pt) (e:Ext Pt H H') (T':qI H' Pt) (n:H' a=none):H a=none:=by
 cases q:H a with
 | none=>rfl
 | some o =>
  by_cases z:a=Pt
  ·obtain ⟨ps,h⟩:=T'.ne
   rw [z,h] at n
   cases n
  ·have:=e _ _ q z
   rw [n] at this
   cases this
theorem Xz {f Pt C:Addr}{fd:FuncData}(nb:Nb2 mg) (c_way_of:CalX P w K mg base 6 "way_of" ["reaches","lane"] (ZF Pt C)) (F:Fun K "heights" "heights" vn f fd):FnOk P w K mg base (CX1 P w) 7 f fd ["reaches","lane"] (gY Pt C):=by
 refine Fun.okX F Xk (λvs H Q E h=>?_) (λcdv A outer s H vs Q E hr h=>?_)
 ·obtain ⟨p,xs,rs,l,rfl,_⟩:=h
  rfl
 ·obtain ⟨p,xs,rs,l,rfl,hp,hrw,L,h60,h100,hT,k,kx⟩:=h
  refine ⟨_,(jb (jj (Vl (osc:=(j9 vn)) (ON:=["reaches","lane"]) (N:=["reach","height","reaches"]) (own:=2) (caps:=[0]) ⟨rfl,∅,∅,∅,rfl,∅⟩ rfl rfl rfl (vW K (zi c_way_of (hr.mono ⋯) ze rfl (j2 (pv 0) (j2 (pv 1) j5)))) (λ_ _ _ _ _=>(ji (i:=0) (show aZ (["reach","height","reaches"]:List Str) by decide +kernel) rfl (bb rfl))) (λ_ _ _ _ _=>jH) (λ_ _ _ _ _=>(vW K (jk (jx K) (jk (jf K) (pv 2) (pv 0) (λ_ _=>rfl)) j6 (λ_ _=>rfl)))) (λ_ _ _ _ _=>(ji (i:=1) (show aZ (["reach","height","reaches"]:List Str) by decide +kernel) rfl (bb rfl))) (λ_ _ _ _ _=>jH) (λ_ _ _ _ _=>(pv 1))))),?_⟩
  obtain ⟨ps,hPt⟩:=hT.ne
  left
  refine ⟨p,xs,rs,l,rfl,hp,hrw,L,h60,hT,λt H1 ws i ei hi hR ht1 X1 T1=>?_,λH1 hbad X1 T1=>kx H1 hbad X1 T1⟩
  have hp1:=X1 _ _ hp (jp hp hPt (by walk_at "z"))
  have hrw1:qe H1 xs rs:=hrw.keep (jy.tbl X1 hPt)
  obtain ⟨inw,lenw⟩:=UO L hR hi
  have kk:=λt H'=>k t H' ws i ei hi hR
  generalize ws.getD i []=way at *
  left
  refine ⟨⟨_,SqT.of ht1⟩,λacc hacc=>?_⟩
  refine Yh (K:=K) (a:=t) (xs:=way.map V.int) (acc:=acc) (λj σ H2=>∃x y:Option V,σ=[x,y,some (.ref p)]/\H2 acc=some (.lst ((jm rs (way.take j)).map V.int))/\Ext acc H1 H2) ?_ ?_ ?_ ?_
  ·exact ⟨none,none,rfl,j8,Ext.put⟩
  ·rintro j σ H2 hj ⟨x,y,rfl,h3,e3⟩
   exact SqT.of (e3 _ _ ht1 (j4 ht1 hacc))
  ·rintro j v σ H2 hv ⟨x,y,rfl,h3,e3⟩
   obtain ⟨r,rfl,hr'⟩:=vJ hv
   have hin:=inw r (au hr')
   have hri:r.toNat<rs.length:=()
   obtain ⟨v,hv2,q,g,rfl,hq1,hg1⟩:=hrw1.at (ag hri)
   have hp2:=e3 _ _ hp1 (j4 hp1 hacc)
   have hq:=e3 _ _ hq1 (j4 hq1 hacc)
   have gl:=uJ h100 (way.take j)
   have jl:(way.take j).length<=60:=by rw [aT];omega
   have hsn:=uV rs way j r hr'
   have ehs:zX rs r.toNat=(rs[r.toNat]'hri).2:=by
    unfold zX
    rw [ao,ag hri]
    rfl
   have hl100:=h100 _ (bW hri)
   rw [ehs] at hsn
   generalize (rs[r.toNat]'hri).2=hs at hg1 hsn hl100
   left
   refine ⟨_,_,_,_,rfl,rfl,SqL.of hp2,(by rw [show r=((r.toNat:Nat):Int) by omega];exact vm hv2),?_⟩
   refine ⟨_,_,_,_,rfl,rfl,SqT.of hq,rfl,?_⟩
   refine ⟨g,rfl,⟨_,SqT.of (e3 _ _ hg1 (j4 hg1 hacc))⟩,?_⟩
   refine UF (K:=K) (a:=g) (acc:=acc) (xs:=hs.map V.int) (λn σ H4=>∃y:Option V,σ=[some (.int r),y,some (.ref p)]/\H4 acc=some (.lst ((jm rs (way.take j)++hs.take n).map V.int))/\Ext acc H1 H4) ?_ ?_ ?_ ?_
   ·exact ⟨y,rfl,by rw [rT,aP];exact h3,e3⟩
   ·rintro n σ H4 hn ⟨y,rfl,h4,e4⟩
    exact SqT.of (e4 _ _ hg1 (j4 hg1 hacc))
   ·rintro n v σ H4 hv4 ⟨y,rfl,h4,e4⟩
    obtain ⟨h,rfl,hh⟩:=vJ hv4
    have hnl:=(List.getElem?_eq_some_iff.mp hh).1
    left
    refine ⟨_,h4,by rw [af,az,aT];exact aI (show _<10000 by omega) ⋯,some (.int h),rfl,?_,e4.trans Ext.put⟩
    rw [j8,bE,hh,dw,<- fP,aC (l₁:=jm rs (way.take j)++hs.take n)]
    rfl
   ·rintro σ H4 ⟨y,rfl,h4,e4⟩
    rw [af,br,<- hsn] at h4
    exact ⟨_,_,rfl,h4,e4⟩
  ·rintro σ H2 ⟨x,y,rfl,h3,e3⟩
   rw [af,br] at h3
   exact kk acc H2 (QB hT X1 T1 hacc) h3 (λc o hc n=>e3 _ _ (X1 _ _ hc n) (λz=>by rw [z,QB hT X1 T1 hacc] at hc;cases hc)) (T1.extN hacc e3)
noncomputable def vX (va cy sl ye le:Addr):List (Str×V):=jv "leaps" (.ref le) (jv "years" (.ref ye) (jv "slopes" (.ref sl) (jv "cycle" (.ref cy) (jv "valley" (.ref va) []))))
theorem JZ (va cy sl ye le:Addr):(vX va cy sl ye le).lookup ("slopes" : Str)=some (.ref sl):=by
 unfold vX
 rw [jM,if_neg ∅,jM,if_neg ∅,jM,if_pos rfl]
theorem vA (va cy sl ye le:Addr):(vX va cy sl ye le).lookup ("years" : Str)=some (.ref ye):=by
 unfold vX
 rw [jM,if_neg ∅,jM,if_pos rfl]
theorem zp (va cy sl ye le:Addr):(vX va cy sl ye le).lookup ("leaps" : Str)=some (.ref le):=by
 unfold vX
 rw [jM,if_pos rfl]
theorem U3 (va cy sl ye le:Addr) {m:Str}(h1:¬m = "leaps") (h2:¬m = "years") (h3:¬m = "slopes") (h4:¬m = "cycle") (h5:¬m = "valley"):(vX va cy sl ye le).lookup m=none:=by
 unfold vX
 rw [jM,if_neg h1,jM,if_neg h2,jM,if_neg h3,jM,if_neg h4,jM,if_neg h5]
 rfl
theorem xu {va cy sl ye le:Addr}{m:Str}(h:(¬m="leaps")/\(¬m="years")/\(¬m="slopes")/\(¬m="cycle")/\¬m="valley"):(vX va cy sl ye le).lookup m=none:=U3 _ _ _ _ _ h.1 h.2.1 h.2.2.1 h.2.2.2.1 h.2.2.2.2
structure IceC (K:ai) (C:Addr):Prop where
 cl:Cls K C
 nV:zw K C "valley"
 nC:zw K C "cycle"
 nS:zw K C "slopes"
 nY:zw K C "years"
 nL:zw K C "leaps"
structure IceG where
 dx:Addr
 va:Addr
 cy:Addr
 sl:Addr
 ye:Addr
 le:Addr
 xs:List V
 ys:List V
 zs:List V
 lds:List (Addr×List (Key×V))
 kvs:List (Key×V)
 rs:List Rch
 rows:List T3
 slopes:List (List Int)
structure IceAt (C:Addr) (H:Hp) (p:Addr) (g:IceG):Prop where
 ob:H p=some (.ins C g.dx (vX g.va g.cy g.sl g.ye g.le))
 va:H g.va=some (.lst g.xs)
 rs:qe H g.xs g.rs
 cy:H g.cy=some (.lst g.ys)
 rows:jQ H g.ys g.rows
 sl:H g.sl=some (.lst g.zs)
 slopes:yx H g.zs g.slopes
 ye:H g.ye=some (.dK g.kvs)
 le:H g.le=some (.lst (g.lds.map λx=>V.ref x.1))
 lds:∀x∈g.lds,H x.1=some (.dK x.2)
theorem IceAt.same {C:Addr}{H H':Hp}{p:Addr}{g:IceG}(I:IceAt C H p g) (s:jq H H'):IceAt C H' p g :=
 ⟨s _ _ I.ob,s _ _ I.va,I.rs.keep (jy.same s),s _ _ I.cy,I.rows.imp λ_ _ q=>s _ _ q,s _ _ I.sl,Paired.mapP I.slopes λ_ _ ⟨a,e,q⟩=>⟨a,e,s _ _ q⟩,s _ _ I.ye,s _ _ I.le,λx hx=>s _ _ (I.lds x hx)⟩
noncomputable def zO (C CN:Addr):Sp:=λvs H Q E=>∃(p:Addr) (g:IceG) (l:Int),vs=[.ref p,.int l]/\IceAt C H p g/\(0<=l->l<(g.slopes.length:Int)->Q .non H)/\(l<0\/(g.slopes.length:Int)<=l->E (.ref CN) none H)
theorem vF:FnScope ["self","lane"] ["self","lane"] (j9 xv):=by walk_at "s"
theorem vz {f C CN:Addr}{fd:FuncData}(nb:Nb2 mg) (T:IceC K C) (e_NoLane:mg "NoLane" = some (.ref CN)) (x_NoLane:cZ K CN [.type "ValueError",.type "Exception",.type "BaseException",.type "object"] "ValueError.__new__" = true) (F:Fun K "check_lane" "Ice.check_lane" xv f fd):FnOk P w K mg base (CX1 P w) 1 f fd ["self","lane"] (zO C CN):=by
 refine Fun.okX F vF (λvs H Q E h=>?_) (λcdv A outer s H vs Q E hr h=>?_)
 ·obtain ⟨p,g,l,rfl,_⟩:=h
  rfl
 ·obtain ⟨p,g,l,rfl,I,k,kx⟩:=h
  have hz:g.zs.length=g.slopes.length:=aX I.slopes
  refine ⟨_,(jb (jB (qy (qC jS wc j6 (pv 1) (jd (jg K) rfl nb.b_len aR (j2 (xL K (pv 0)) j5)))) (jb (xc bA x_NoLane e_NoLane rfl xN rfl (j2 jc j5))) jr)),?_⟩
  left
  refine qo (λh0=>?_) (λh0=>?_)
  ·left
   refine ⟨p,C,g.dx,_,_,rfl,I.ob,T.cl,T.nS,JZ _ _ _ _ _,?_⟩
   left
   refine ⟨_,_,rfl,.inl (SqL.of I.sl),?_⟩
   rw [hz]
   left
   refine xb (λh1=>?_) (λh1=>?_)
   ·left
    exact ⟨by show 1<=sizeLine;decide,kx (.inr ())⟩
   ·left
    exact k h0 h1
  ·left
   refine zF ?_
   left
   exact ⟨by show 1<=sizeLine;decide,kx (.inl ())⟩
noncomputable def yi (CR:Addr):Sp:=λvs H Q E=>∃(p:Addr) (xs:List V) (ts:List T3),vs=[.ref p]/\H p=some (.lst xs)/\jQ H xs ts/\ts.length<=1000/\(∀H',gr ts=true->jq H H'->Q .non H')/\∀H',gr ts=false->jq H H'->E (.ref CR) none H'
theorem wA:FnScope ["rows"] ["rows"] (j9 zQ):=by walk_at "s"
theorem wS {f CR:Addr}{fd:FuncData}(nb:Nb2 mg) (e_BadRound:mg "BadRound" = some (.ref CR)) (x_BadRound:cZ K CR [.type "ValueError",.type "Exception",.type "BaseException",.type "object"] "ValueError.__new__" = true) (c_is_round:Cal P w K mg base 2 "is_round" ["rows"] (Zx K)) (F:Fun K "check_round" "check_round" zQ f fd):FnOk P w K mg base (CX1 P w) 3 f fd ["rows"] (yi CR):=by
 refine Fun.okX F wA (λvs H Q E h=>?_) (λcdv A outer s H vs Q E hr h=>?_)
 ·obtain ⟨p,xs,ts,rfl,_⟩:=h
  rfl
 ·obtain ⟨p,xs,ts,rfl,hp,hr3,h1000,k,kx⟩:=h
  refine ⟨_,(jb (jB (qy (xC (je c_is_round (hr.mono ⋯) rfl (j2 (pv 0) j5)))) (jb (xc bA x_BadRound e_BadRound rfl xN rfl (j2 jc j5))) jr)),?_⟩
  left
  refine ⟨p,xs,ts,rfl,hp,hr3,h1000,λH1 s1=>?_⟩
  cases e:gr ts with
  | true =>
   left
   exact k H1 e s1
  | false =>
   left
   exact ⟨by show 1<=sizeLine;decide,kx H1 e s1⟩
noncomputable def Kp (p Pt:Addr) (H H':Hp):Prop:=∀c o,H c=some o->c≠p->c≠Pt->H' c=some o
theorem Kp.trans {p Pt:Addr}{H H1 H2:Hp}(a:Kp p Pt H H1) (b:Kp p Pt H1 H2):Kp p Pt H H2:=λc o h n m=>b c o (a c o h n m) n m
theorem Kp.of_same {p Pt:Addr}{H H':Hp}(s:jq H H'):Kp p Pt H H':=λc o h _ _=>s c o h
theorem Kp.of_ext {p Pt:Addr}{H H':Hp}(s:Ext Pt H H'):Kp p Pt H H':=λc o h _ m=>s c o h m
theorem Kp.put {p Pt:Addr}{H:Hp}{o:HO}:Kp p Pt H (upd H p o):=λc _ h n _=>by rw [ja n];exact h
theorem Kp.at {p Pt a:Addr}{H H':Hp}{o u:HO}{ps:Array ah}(k:Kp p Pt H H') (h:H a=some o) (hp:H p=some u) (hPt:H Pt=some (.tbl ps)) (n:o≠u) (m:o≠.tbl ps):H' a=some o:=k _ _ h (jp h hp n) (jp h hPt m)
theorem Kp.free {p Pt a:Addr}{H H':Hp}{u u':HO}(k:Kp p Pt H H') (h:H' a=none) (hp:H' p=some u) (hPt:H' Pt=some u'):H a=none:=by
 cases e:H a with
 | none=>rfl
 | some o =>
  have:=k a o e (λz=>by rw [z,hp] at h;cases h) (λz=>by rw [z,hPt] at h;cases h)
  rw [h] at this
  cases this
theorem uo {H:Hp}{Pt p C dx:Addr}{fs:List (Str×V)}{o:HO}(T:qI H Pt) (hp:H p=some (.ins C dx fs)):qI (upd H p o) Pt:=by
 rcases T with h | ⟨c,h,h'⟩
 ·exact .inl (by rw [ja (jp h hp (by walk_at "z"))];exact h)
 ·exact .inr ⟨c,by rw [ja (jp h hp (by walk_at "z"))];exact h,by rw [ja (jp h' hp (by walk_at "z"))];exact h'⟩
theorem jy.kp {p Pt C dx:Addr}{H H':Hp}{fs:List (Str×V)}{ps:Array ah}(k:Kp p Pt H H') (hp:H p=some (.ins C dx fs)) (hPt:H Pt=some (.tbl ps)):jy H H':=λ_ _ h=>k.at h hp hPt (by walk_at "z") (by walk_at "z")
theorem pm {α β:Type}{F:α->β->Prop}:∀{l₁:List α}{l₂:List β},dJ F l₁ l₂->∀v∈l₁,∃w,F v w
 | _,_,.nil,v,h=>by cases h
 | _,_,.cons q r,v,h=>by
  rcases List.mem_cons.mp h with rfl | z
  ·exact ⟨_,q⟩
  ·exact pm r v z
theorem pmE {H H0:Hp}{a0:Addr}{zs:List V}{rows:List (List Int)}(r:dJ (λv (w:List Int)=>∃a,v=V.ref a/\H a=some (.lst (w.map V.int))/\H0 a=none/\a≠a0) zs rows):∀a,V.ref a∈zs->H0 a=none/\a≠a0:=λa h=>by
 obtain ⟨w,b,e,_,z⟩:=pm r _ h
 cases e
 exact z
structure IceNew (C Pt:Addr) (H H':Hp) (p:Addr) (g:IceG):Prop where
 at_:IceAt C H' p g
 keep:∀c o,H c=some o->c≠p->c≠Pt->H' c=some o
 va:H g.va=none
 cy:H g.cy=none
 sl:H g.sl=none
 ye:H g.ye=none
 le:H g.le=none
 zs:∀a,V.ref a∈g.zs->H a=none
 kvs:g.kvs=[]
 lds:∀x∈g.lds,H x.1=none/\x.2=[]
 ll:g.lds.length=g.slopes.length
 nd:(g.lds.map (·.1)).Nodup
 ny:∀x∈g.lds,x.1≠g.ye
 sl2:∃ws,qj g.rs ws/\g.slopes=ws.map (jm g.rs)
noncomputable def YK (C CV CR Pt:Addr):Sp:=λvs H Q E=>∃(p dx r q:Addr) (xs ys:List V) (rs:List Rch) (ts:List T3),vs=[.ref p,.ref r,.ref q]/\H p=some (.ins C dx [])/\H r=some (.lst xs)/\qe H xs rs/\H q=some (.lst ys)/\jQ H ys ts/\(∀r∈rs,r.2.length<=100)/\rs.length<=60/\ts.length<=1000/\qI H Pt /\
 (∀H' g,zH rs=true->gr ts=true->IceNew C Pt H H' p g->g.rs=rs->g.rows=ts->g.xs=xs->g.ys=ys->qI H' Pt->Q .non H') /\
 (∀H',zH rs=false->Ext Pt H H'->qI H' Pt->E (.ref CV) none H')/\(∀H',zH rs=true->gr ts=false->Ext Pt H H'->qI H' Pt->E (.ref CR) none H')
theorem uM:FnScope ["self","reaches","rows"] ["self","reaches","rows"] (j9 qJ):=by walk_at "s"
theorem uE {f C CV CR CN Pt:Addr}{fd:FuncData}(nb:Nb2 mg) (T:IceC K C) (e_BadValley:mg "BadValley" = some (.ref CV)) (x_BadValley:cZ K CV [.type "ValueError",.type "Exception",.type "BaseException",.type "object"] "ValueError.__new__" = true)
  (c_is_valley:Cal P w K mg base 6 "is_valley" ["reaches"] (Qa K Pt)) (c_check_round:CalX P w K mg base 3 "check_round" ["rows"] (yi CR)) (c_lanes:Cal P w K mg base 5 "lanes" ["reaches"] (vV K Pt)) (c_heights:Cal P w K mg base 7 "heights" ["reaches","lane"] (λvs H Q _=>gY Pt CN vs H Q E0))
  (F:Fun K "__init__" "Ice.__init__" qJ f fd):FnOk P w K mg base (CX1 P w) 8 f fd ["self","reaches","rows"] (YK C CV CR Pt):=by
 refine Fun.okX F uM (λvs H Q E h=>?_) (λcdv A outer s H vs Q E hr h=>?_)
 ·obtain ⟨p,dx,r,q,xs,ys,rs,ts,rfl,_⟩:=h
  rfl
 ·obtain ⟨p,dx,r,q,xs,ys,rs,ts,rfl,hp,hr',hrw,hq,hr3,h100,h60,h1000,hT,k,kv,kr⟩:=h
  obtain ⟨ps,hPt⟩:=hT.ne
  refine ⟨_,(j7 (jB (qy (xC (je c_is_valley (hr.mono ⋯) rfl (j2 (pv 1) j5)))) (jb (xc bA x_BadValley e_BadValley rfl xN rfl (j2 jc j5))) jr)
   (j7 (qi (zi c_check_round (hr.mono ⋯) ze rfl (j2 (pv 2) j5)))
   (j7 (yY K (pv 0) (jL (qa K) rfl nb.b_list bz (j2 (pv 1) j5)))
   (j7 (yY K (pv 0) (jL (qa K) rfl nb.b_list bz (j2 (pv 2) j5)))
   (j7 (yY K (pv 0) (jW (osc:=(j9 qJ)) (ON:=["self","reaches","rows"]) (N:=["lane","reaches"]) (own:=1) (caps:=[1]) ⟨rfl,∅,∅,∅,rfl,∅⟩ rfl rfl rfl (qL rfl nb.b_range (j2 (jd (jg K) rfl nb.b_len aR (j2 (je c_lanes (hr.mono ⋯) rfl (j2 (pv 1) j5)) j5)) j5)) (λ_ _ _ _ _=>(ji (i:=0) (show aZ (["lane","reaches"]:List Str) by decide +kernel) rfl (bb rfl))) (λ_ _ _ _ _=>jH) (λ_ _ _ _ _=>(je c_heights (hr.mono ⋯) rfl (j2 (pv 1) (j2 (pv 0) j5))))))
   (j7 (yY K (pv 0) vY)
   (jb (yY K (pv 0) (jW (osc:=(j9 qJ)) (ON:=["self","reaches","rows"]) (N:=["slope"]) (own:=1) (caps:=[]) ⟨rfl,∅,∅,∅,rfl,∅⟩ rfl rfl rfl (qm K (xL K (pv 0))) (λ_ _ _ _ _=>(ji (i:=0) (show aZ (["slope"]:List Str) by decide +kernel) rfl (bb rfl))) (λ_ _ _ _ _=>jH) (λ_ _ _ _ _=>vY)))))))))),?_⟩
  left
  refine ⟨r,xs,rs,rfl,hr',hrw,h100,h60,hT,λH1 X1 T1=>?_⟩
  cases eg:zH rs with
  | false =>
   left
   exact ⟨by show 1<=sizeLine;decide,kv H1 eg X1 T1⟩
  | true =>
   have X1':∀{a:Addr} {o:HO},H a=some o->(∀ps,o≠.tbl ps)->H1 a=some o:=λ{a o} h n=>X1 _ _ h (jp h hPt (n _))
   have hp1:=X1' hp (by walk_at "w")
   have hr1:=X1' hr' (by walk_at "w")
   have hq1:=X1' hq (by walk_at "w")
   have hrw1:qe H1 xs rs:=hrw.keep (jy.tbl X1 hPt)
   have hr31:jQ H1 ys ts:=hr3.imp λa t e=>X1' e (by walk_at "w")
   left
   refine ⟨q,ys,ts,rfl,hq1,hr31,h1000,λH2 egr s2=>?_,λH2 egr s2=>kr H2 eg egr (X1.trans (Ext.of_same s2)) (T1.same s2)⟩
   have L:xi rs:=qp (by unfold zH at eg;rw [ba,ba] at eg;exact eg.2.1)
   have k2:Kp p Pt H H2:=(Kp.of_ext X1).trans (Kp.of_same s2)
   have hp2:=s2 _ _ hp1
   have T2:=T1.same s2
   left
   refine ⟨_,_,rfl,.inl (SqL.of (s2 _ _ hr1)),λva H3 va2 va3 s3=>?_⟩
   have hp3:=s3 _ _ hp2
   have T3':=T2.same s3
   have k3:=k2.trans (Kp.of_same s3)
   obtain ⟨_,hPt2⟩:=T2.ne
   have va0:=k2.free va2 hp2 hPt2
   left
   refine ⟨p,C,dx,_,rfl,hp3,T.cl,T.nV,⋯,?_⟩
   have Ta:qI (upd H3 p (HO.ins C dx (jv "valley" (V.ref va) []))) Pt:=uo T3' hp3
   have ka:=k3.trans (Kp.put (p:=p) (Pt:=Pt) (o:=HO.ins C dx (jv "valley" (V.ref va) [])))
   have pa:upd H3 p (HO.ins C dx (jv "valley" (V.ref va) [])) p=some (HO.ins C dx (jv "valley" (V.ref va) [])):=j8
   have vaa:upd H3 p (HO.ins C dx (jv "valley" (V.ref va) [])) va=some (HO.lst xs):=by rw [ja (j4 hp2 va2).symm];exact va3
   clear k2 k3 hp1 hr1 hq1 hrw1 hr31 X1' X1 T1 s2 hp2 T2 s3 hp3 T3' va3 va2 hPt2
   generalize upd H3 p (HO.ins C dx (jv "valley" (V.ref va) []))=Ha at *
   obtain ⟨_,hPta⟩:=Ta.ne
   have vaP:va≠Pt:=jp vaa hPta (by walk_at "z")
   have vap:va≠p:=jp vaa pa (by walk_at "z")
   left
   refine ⟨_,_,rfl,.inl (SqL.of (ka.at hq hp hPt (by walk_at "z") (by walk_at "z"))),λcy H4 cya cy4 s4=>?_⟩
   have hp4:=s4 _ _ pa
   have T4:=Ta.same s4
   have cy0:=ka.free cya pa hPta
   left
   refine ⟨p,C,dx,_,rfl,hp4,T.cl,T.nC,bI (qd _ _ _) ⋯,?_⟩
   have kb:=(ka.trans (Kp.of_same s4)).trans (Kp.put (p:=p) (Pt:=Pt) (o:=HO.ins C dx (jv "cycle" (V.ref cy) (jv "valley" (V.ref va) []))))
   have Tb:qI (upd H4 p (HO.ins C dx (jv "cycle" (V.ref cy) (jv "valley" (V.ref va) [])))) Pt:=uo T4 hp4
   have pb:upd H4 p (HO.ins C dx (jv "cycle" (V.ref cy) (jv "valley" (V.ref va) []))) p=some (HO.ins C dx (jv "cycle" (V.ref cy) (jv "valley" (V.ref va) []))):=j8
   have vab:upd H4 p (HO.ins C dx (jv "cycle" (V.ref cy) (jv "valley" (V.ref va) []))) va=some (HO.lst xs):=by rw [ja vap];exact s4 _ _ vaa
   have cyb:upd H4 p (HO.ins C dx (jv "cycle" (V.ref cy) (jv "valley" (V.ref va) []))) cy=some (HO.lst ys):=by rw [ja (j4 pa cya).symm];exact cy4
   clear ka Ta pa vaa s4 hp4 T4 cya cy4 hPta
   generalize upd H4 p (HO.ins C dx (jv "cycle" (V.ref cy) (jv "valley" (V.ref va) [])))=Hb at *
   obtain ⟨_,hPtb⟩:=Tb.ne
   have cyP:cy≠Pt:=jp cyb hPtb (by walk_at "z")
   have cyp:cy≠p:=jp cyb pb (by walk_at "z")
   have pP:p≠Pt:=jp pb hPtb (by walk_at "z")
   left
   refine ⟨r,xs,rs,rfl,kb.at hr' hp hPt (by walk_at "z") (by walk_at "z"),hrw.keep (jy.kp kb hp hPt),L,h60,Tb,λo H5 out ws ho ho5 hw hR X5 T5=>?_⟩
   left
   refine ⟨_,_,rfl,.inl (SqL.of ho5),?_⟩
   have hlen:out.length=ws.length:=hw.length
   have hws:ws.length<=60:=by
    rw [hR.length]
    unfold jw
    exact aF (bo _ _) (by rw [cq];exact h60)
   refine ⟨(out.length:Int),rfl,(),(),λacc hacc=>?_⟩
   obtain ⟨_,hPt5⟩:=T5.ne
   have kb5:Kp p Pt H H5:=kb.trans (Kp.of_ext X5)
   have hp5:=X5 _ _ pb pP
   have va5:=X5 _ _ vab vaP
   have cy5:=X5 _ _ cyb cyP
   have hr5:H5 r=some (.lst xs):=kb5.at hr' hp hPt (by walk_at "z") (by walk_at "z")
   have hrw5:qe H5 xs rs:=hrw.keep (jy.kp kb5 hp hPt)
   have accP:Pt≠acc:=j4 hPt5 hacc
   refine xD (lo:=0) (n:=((out.length:Int)).toNat) (acc:=acc) (λi σ H6=>∃(x:Option V) (zs:List V),σ=[x,some (.ref r)]/\H6 acc=some (.lst zs)/\zs.length=i/\dJ (λv (w:List Int)=>∃a,v=V.ref a/\H6 a=some (.lst (w.map V.int))/\H5 a=none/\a≠acc) zs ((ws.take i).map (jm rs))/\Kp acc Pt H5 H6/\qI H6 Pt) ?_ ?_ ?_
   ·exact ⟨none,[],rfl,j8,rfl,.nil,Kp.put,T5.extN hacc Ext.put⟩
   ·rintro i σ H6 hi ⟨x,zs,rfl,h6,hz,r6,k6,T6⟩
    obtain ⟨_,hPt6⟩:=T6.ne
    have iw:i<ws.length:=()
    left
    refine ⟨r,xs,rs,_,rfl,k6 _ _ hr5 (j4 hr5 hacc) (jp hr5 hPt5 (by walk_at "z")),hrw5.keep (λa o h=>k6 _ _ h (j4 h hacc) (jp h hPt5 (by walk_at "z"))),L,h60,h100,T6,λt H7 ws' i' ei hi' hR' ht ht7 X7 T7=>?_,λH' hb _ _=>?_⟩
    ·obtain rfl:=hR.unique hR'
     obtain rfl:i'=i:=()
     have h7:=X7 _ _ h6 accP.symm
     have ta:t≠acc:=(j4 h6 ht).symm
     have tP:t≠Pt:=(j4 hPt6 ht).symm
     refine ⟨zs,h7,jh (),some (.int (0+(i':Int))),zs++[.ref t],rfl,j8,by rw [az,hz];rfl,?_,?_,?_⟩
     ·rw [qE (jm rs) ws i' (ws.getD i' []) (by rw [ao,ag iw];rfl)]
      refine dh (Paired.mapP r6 λv wy ⟨a,e,ha,h0,na⟩=>⟨a,e,?_,h0,na⟩) ⟨t,rfl,by rw [ja ta];exact ht7,k6.free ht h6 hPt6,ta⟩
      rw [ja na]
      exact X7 _ _ ha (jp ha hPt6 (by walk_at "z"))
     ·exact (k6.trans (Kp.of_ext X7)).trans Kp.put
     ·exact T7.ext h7 Ext.put
    ·have:=hR.length
     exact absurd hb ()
   ·rintro σ H6 ⟨x,zs,rfl,h6,hz,r6,k6,T6⟩
    rw [bL,hlen,br] at r6
    have f6:=pmE r6
    have hp6:=k6 _ _ hp5 (j4 hp5 hacc) pP
    have kc:Kp p Pt H (upd H6 p (HO.ins C dx (jv "slopes" (V.ref acc) (jv "cycle" (V.ref cy) (jv "valley" (V.ref va) []))))):=λc o h n m=>by
     rw [ja n]
     have:=kb5 c o h n m
     exact k6 _ _ this (j4 this hacc) m
    have acp:acc≠p:=(j4 hp5 hacc).symm
    have acc0:=kb5.free hacc hp5 hPt5
    have zs0:∀a,V.ref a∈zs->H a=none:=λa z=>kb5.free (f6 a z).1 hp5 hPt5
    left
    refine ⟨p,C,dx,_,rfl,hp6,T.cl,T.nS,bI (aF (qd _ _ _) (di (qd _ _ _))) ⋯,?_⟩
    have Tc:qI (upd H6 p (HO.ins C dx (jv "slopes" (V.ref acc) (jv "cycle" (V.ref cy) (jv "valley" (V.ref va) []))))) Pt:=uo T6 hp6
    have pc:upd H6 p (HO.ins C dx (jv "slopes" (V.ref acc) (jv "cycle" (V.ref cy) (jv "valley" (V.ref va) [])))) p=some (HO.ins C dx (jv "slopes" (V.ref acc) (jv "cycle" (V.ref cy) (jv "valley" (V.ref va) [])))):=j8
    have vac:upd H6 p (HO.ins C dx (jv "slopes" (V.ref acc) (jv "cycle" (V.ref cy) (jv "valley" (V.ref va) [])))) va=some (HO.lst xs):=by rw [ja vap];exact k6 _ _ va5 (j4 va5 hacc) vaP
    have cyc:upd H6 p (HO.ins C dx (jv "slopes" (V.ref acc) (jv "cycle" (V.ref cy) (jv "valley" (V.ref va) [])))) cy=some (HO.lst ys):=by rw [ja cyp];exact k6 _ _ cy5 (j4 cy5 hacc) cyP
    have slc:upd H6 p (HO.ins C dx (jv "slopes" (V.ref acc) (jv "cycle" (V.ref cy) (jv "valley" (V.ref va) [])))) acc=some (HO.lst zs):=by rw [ja acp];exact h6
    have slsc:yx (upd H6 p (HO.ins C dx (jv "slopes" (V.ref acc) (jv "cycle" (V.ref cy) (jv "valley" (V.ref va) []))))) zs (ws.map (jm rs)):=Paired.mapP r6 λv wy ⟨a,e,ha,h0,na⟩=>⟨a,e,by rw [ja (j4 hp5 h0).symm];exact ha⟩
    clear r6 f6 k6 T6 h6 hp6 kb5 hp5 va5 cy5 hr5 hrw5 X5 T5 kb Tb pb vab cyb hPtb accP hacc ho ho5 hw hPt5
    generalize upd H6 p (HO.ins C dx (jv "slopes" (V.ref acc) (jv "cycle" (V.ref cy) (jv "valley" (V.ref va) []))))=Hc at *
    left
    intro ye hye
    obtain ⟨_,hPtc⟩:=Tc.ne
    have ye0:=kc.free hye pc hPtc
    have yep:ye≠p:=(j4 pc hye).symm
    have s9:jq Hc (upd Hc ye (.dK [])):=jq.new hye
    left
    refine ⟨p,C,dx,_,rfl,s9 _ _ pc,T.cl,T.nY,bI (aF (qd _ _ _) (di (aF (qd _ _ _) (di (qd _ _ _))))) ⋯,?_⟩
    have d_of:∀c o,Hc c=some o->c≠p->(upd (upd Hc ye (HO.dK [])) p (HO.ins C dx (jv "years" (V.ref ye) (jv "slopes" (V.ref acc) (jv "cycle" (V.ref cy) (jv "valley" (V.ref va) [])))))) c=some o:=λc o h n=>by rw [ja n];exact s9 _ _ h
    have kd:Kp p Pt H (upd (upd Hc ye (HO.dK [])) p (HO.ins C dx (jv "years" (V.ref ye) (jv "slopes" (V.ref acc) (jv "cycle" (V.ref cy) (jv "valley" (V.ref va) [])))))):=(kc.trans (Kp.of_same s9)).trans Kp.put
    have Td:qI (upd (upd Hc ye (HO.dK [])) p (HO.ins C dx (jv "years" (V.ref ye) (jv "slopes" (V.ref acc) (jv "cycle" (V.ref cy) (jv "valley" (V.ref va) [])))))) Pt:=uo (Tc.same s9) (s9 _ _ pc)
    have pd:(upd (upd Hc ye (HO.dK [])) p (HO.ins C dx (jv "years" (V.ref ye) (jv "slopes" (V.ref acc) (jv "cycle" (V.ref cy) (jv "valley" (V.ref va) [])))))) p=some (HO.ins C dx (jv "years" (V.ref ye) (jv "slopes" (V.ref acc) (jv "cycle" (V.ref cy) (jv "valley" (V.ref va) []))))):=j8
    have vad:=d_of _ _ vac vap
    have cyd:=d_of _ _ cyc cyp
    have sld:=d_of _ _ slc acp
    have yed:(upd (upd Hc ye (HO.dK [])) p (HO.ins C dx (jv "years" (V.ref ye) (jv "slopes" (V.ref acc) (jv "cycle" (V.ref cy) (jv "valley" (V.ref va) [])))))) ye=some (.dK []):=by rw [ja yep];exact j8
    have slsd:yx (upd (upd Hc ye (HO.dK [])) p (HO.ins C dx (jv "years" (V.ref ye) (jv "slopes" (V.ref acc) (jv "cycle" (V.ref cy) (jv "valley" (V.ref va) [])))))) zs (ws.map (jm rs)):=Paired.mapP slsc λv wy ⟨a,e,ha⟩=>⟨a,e,d_of _ _ ha (jp ha pc (by walk_at "z"))⟩
    clear d_of kc Tc pc vac cyc slc slsc hye hPtc s9
    generalize (upd (upd Hc ye (HO.dK [])) p (HO.ins C dx (jv "years" (V.ref ye) (jv "slopes" (V.ref acc) (jv "cycle" (V.ref cy) (jv "valley" (V.ref va) []))))))=Hd at *
    obtain ⟨_,hPtd⟩:=Td.ne
    left
    refine ⟨p,C,dx,_,_,rfl,pd,T.cl,T.nS,(by rw [jM,if_neg ∅,jM,if_pos rfl]),?_⟩
    left
    refine ⟨⟨_,SqL.of sld⟩,λle hle=>?_⟩
    have lep:le≠p:=(j4 pd hle).symm
    have le0:=kd.free hle pd hPtd
    have zl:zs.length<=60:=()
    refine qc (K:=K) (a:=acc) (xs:=zs) (acc:=le) (λi σ He=>∃(x:Option V) (lds:List (Addr×List (Key×V))),σ=[x]/\He le=some (.lst (lds.map λx=>V.ref x.1))/\lds.length=i/\(∀x∈lds,He x.1=some (.dK x.2)/\x.2=[]/\Hd x.1=none/\x.1≠le)/\(lds.map (·.1)).Nodup/\Ext le Hd He) ?_ ?_ ?_ ?_
    ·exact ⟨none,[],rfl,j8,rfl,(λx z=>by cases z),iQ,Ext.put⟩
    ·rintro i σ He hi ⟨x,lds,rfl,he,hl,hd,nn,e⟩
     exact SqL.of (e _ _ sld (j4 sld hle))
    ·rintro i v σ He hv ⟨x,lds,rfl,he,hl,hd,nn,e⟩
     have hi:=(List.getElem?_eq_some_iff.mp hv).1
     left
     intro d hd0
     have dl:d≠le:=(j4 he hd0).symm
     refine ⟨_,(by rw [ja (cE dl)];exact he),by rw [af];exact jh (),some v,lds++[(d,[])],rfl,(by rw [j8,aC];rfl),(by rw [az,hl];rfl),λy hy=>?_,?_,λc o hc n=>?_⟩
     ·rcases List.mem_append.mp hy with z | z
      ·obtain ⟨h1,h2,h3,h4⟩:=hd y z
       exact ⟨by rw [ja h4,ja (j4 h1 hd0)];exact h1,h2,h3,h4⟩
      ·obtain rfl:y=(d,[]):=by simpa using z
       exact ⟨by rw [ja dl];exact j8,rfl,e.free hd0 dl,dl⟩
     ·rw [aC]
      refine uk nn λz=>?_
      obtain ⟨y,hy,ey⟩:=List.mem_map.mp z
      have:=(hd y hy).1
      rw [ey,hd0] at this
      cases this
     ·rw [ja n,ja (j4 (e c o hc n) hd0)]
      exact e c o hc n
    ·rintro σ He ⟨x,lds,rfl,he,hl,hd,nn,e⟩
     have hpe:=e _ _ pd (j4 pd hle)
     left
     refine ⟨p,C,dx,_,rfl,hpe,T.cl,T.nL,bI (aF (qd _ _ _) (di (aF (qd _ _ _) (di (aF (qd _ _ _) (di (qd _ _ _))))))) ⋯,?_⟩
     have f_of:∀c o,Hd c=some o->c≠p->upd He p (HO.ins C dx (jv "leaps" (V.ref le) (jv "years" (V.ref ye) (jv "slopes" (V.ref acc) (jv "cycle" (V.ref cy) (jv "valley" (V.ref va) [])))))) c=some o:=λc o h n=>by rw [ja n];exact e _ _ h (j4 h hle)
     have kf:Kp p Pt H (upd He p (HO.ins C dx (jv "leaps" (V.ref le) (jv "years" (V.ref ye) (jv "slopes" (V.ref acc) (jv "cycle" (V.ref cy) (jv "valley" (V.ref va) []))))))):=λc o h n m=>f_of c o (kd c o h n m) n
     have hnp:∀x∈lds,x.1≠p:=λx hx=>(j4 pd (hd x hx).2.2.1).symm
     refine k _ { dx:=dx,va:=va,cy:=cy,sl:=acc,ye:=ye,le:=le,xs:=xs,ys:=ys,zs:=zs,lds:=lds,kvs:=[],rs:=rs,rows:=ts,slopes:=ws.map (jm rs) } eg egr ⟨⟨j8,f_of _ _ vad vap,hrw.keep (jy.kp kf hp hPt),f_of _ _ cyd cyp,hr3.imp λa t e=>kf.at e hp hPt (by walk_at "z") (by walk_at "z"),f_of _ _ sld acp,Paired.mapP slsd λv wy ⟨a,e,ha⟩=>⟨a,e,f_of _ _ ha (jp ha pd (by walk_at "z"))⟩,f_of _ _ yed yep,(by rw [ja lep];exact he),λx hx=>by rw [ja (hnp x hx)];exact (hd x hx).1⟩,kf,va0,cy0,acc0,ye0,le0,zs0,rfl,λx hx=>⟨kd.free (hd x hx).2.2.1 pd hPtd,(hd x hx).2.1⟩,hl.trans (aX slsd),nn,λx hx=>(j4 yed (hd x hx).2.2.1).symm,ws,hR,rfl⟩ rfl rfl rfl rfl (uo (Td.extN hle e) hpe)
noncomputable def xU (CY:Addr):Sp:=λvs H Q E=>∃y:Int,vs=[.int y]/\(0<=y->y<=99->Q .non H)/\(y<0\/99<y->E (.ref CY) none H)
theorem hV:FnScope ["year"] ["year"] (j9 yk):=by walk_at "s"
theorem kM {f CY:Addr}{fd:FuncData}{u0:Tok}(g_LAST_TOLD:mg "LAST_TOLD" = some (.int 99 u0)) (e_BadYear:mg "BadYear" = some (.ref CY)) (x_BadYear:cZ K CY [.type "ValueError",.type "Exception",.type "BaseException",.type "object"] "ValueError.__new__" = true) (F:Fun K "check_told" "check_told" yk f fd):FnOk P w K mg base (CX1 P w) 1 f fd ["year"] (xU CY):=by
 refine Fun.okX F hV (λvs H Q E h=>?_) (λcdv A outer s H vs Q E hr h=>?_)
 ·obtain ⟨y,rfl,_⟩:=h
  rfl
 ·obtain ⟨y,rfl,k,kx⟩:=h
  refine ⟨_,(jb (jB (qy (qC jS jS j6 (pv 0) (jF (v:=V.int 99) rfl g_LAST_TOLD ⟨_,rfl⟩))) (jb (xc bA x_BadYear e_BadYear rfl xN rfl (j2 jc j5))) jr)),?_⟩
  left
  refine qo (λh0=>?_) (λh0=>?_)
  ·left
   refine xb (λh1=>?_) (λh1=>?_)
   ·left
    exact ⟨by show 1<=sizeLine;decide,kx (.inr ())⟩
   ·left
    exact k h0 h1
  ·left
   refine zF ?_
   left
   exact ⟨by show 1<=sizeLine;decide,kx (.inl ())⟩
theorem IceAt.years {C p:Addr}{H H':Hp}{g:IceG}{kvs:List (Key×V)}(I:IceAt C H p g) (hn:∀x∈g.lds,x.1≠g.ye) (e:Ext g.ye H H') (h:H' g.ye=some (.dK kvs)):IceAt C H' p { g with kvs:=kvs }:=by
 have f:∀{c:Addr} {o:HO},H c=some o->o≠.dK g.kvs->H' c=some o:=λh n=>e _ _ h (jp h I.ye n)
 exact ⟨f I.ob (by walk_at "z"),f I.va (by walk_at "z"),I.rs.keep λ_ _ q=>f q (by walk_at "z"),f I.cy (by walk_at "z"),I.rows.imp λ_ _ q=>f q (by walk_at "z"),f I.sl (by walk_at "z"),Paired.mapP I.slopes λv w ⟨a,ea,q⟩=>⟨a,ea,f q (by walk_at "z")⟩,h,f I.le (by walk_at "z"),λx hx=>e _ _ (I.lds x hx) (hn x hx)⟩
noncomputable def X0 (C CY CW:Addr):Sp:=λvs H Q E=>∃(p t:Addr) (g:IceG) (y:Int) (r:T3),vs=[.ref p,.int y,.ref t]/\IceAt C H p g/\(∀x∈g.lds,x.1≠g.ye)/\H t=some (uT r)/\g.kvs.length<=1000 /\
 (∀H',0<=y->y<=99->good r=true->Ext g.ye H H'->IceAt C H' p { g with kvs:=qt g.kvs (.inl y) (.ref t) }->Q .non H')/\(y<0\/99<y->E (.ref CY) none H)/\(0<=y->y<=99->good r=false->E (.ref CW) none H)
theorem Jt:FnScope ["self","year","row"] ["self","year","row"] (j9 yO):=by walk_at "s"
theorem Js {f C CY CW:Addr}{fd:FuncData}(nb:Nb2 mg) (T:IceC K C) (e_BadWeather:mg "BadWeather" = some (.ref CW)) (x_BadWeather:cZ K CW [.type "ValueError",.type "Exception",.type "BaseException",.type "object"] "ValueError.__new__" = true) (c_check_told:CalX P w K mg base 1 "check_told" ["year"] (xU CY)) (c_is_weather:Cal P w K mg base 1 "is_weather" ["row"] kF) (F:Fun K "tell" "Ice.tell" yO f fd):FnOk P w K mg base (CX1 P w) 2 f fd ["self","year","row"] (X0 C CY CW):=by
 refine Fun.okX F Jt (λvs H Q E h=>?_) (λcdv A outer s H vs Q E hr h=>?_)
 ·obtain ⟨p,t,g,y,r,rfl,_⟩:=h
  rfl
 ·obtain ⟨p,t,g,y,r,rfl,I,hn,ht,hk,k,ky,kw⟩:=h
  refine ⟨_,(j7 (qi (zi c_check_told (hr.mono ⋯) ze rfl (j2 (pv 1) j5)))
   (j7 (jB (qy (xC (je c_is_weather (hr.mono ⋯) rfl (j2 (pv 2) j5)))) (jb (xc bA x_BadWeather e_BadWeather rfl xN rfl (j2 jc j5))) jr)
   (jb (xf (jJ hr) (xL K (pv 0)) (pv 1) (pv 2) rfl)))),?_⟩
  left
  refine ⟨λh0 h1=>?_,λhb=>ky hb⟩
  left
  refine ⟨t,r,rfl,ht,?_⟩
  cases eg:good r with
  | false =>
   left
   exact ⟨by show 1<=sizeLine;decide,kw h0 h1 eg⟩
  | true =>
   left
   refine ⟨p,C,g.dx,_,_,rfl,I.ob,T.cl,T.nY,vA _ _ _ _ _,?_⟩
   left
   refine ⟨g.ye,_,rfl,vq.k (k:=.inl y) I.ye (jh hk),?_⟩
   exact k _ h0 h1 eg Ext.put (I.years hn Ext.put j8)
noncomputable def xk (l:List (Addr×List (Key×V))) (n:Nat) (kvs:List (Key×V)):List (Addr×List (Key×V)):=l.set n ((l.getD n (0,[])).1,kvs)
theorem Ym (l:List (Addr×List (Key×V))) (n:Nat) (kvs:List (Key×V)):(xk l n kvs).map (λx=>V.ref x.1)=l.map λx=>V.ref x.1:=by
 unfold xk
 rw [d4]
 by_cases h:n<l.length
 ·rw [ao,ag h]
  refine dI λi=>?_
  rw [cN]
  by_cases e:n=i
  ·subst e
   rw [if_pos rfl,af,if_pos h,aq,ag h]
   rfl
  ·rw [if_neg e]
 ·rw [List.set_eq_of_length_le (by rw [af];omega)]
theorem IceAt.leap {C p:Addr}{H H':Hp}{g:IceG}{n:Nat}{a:Addr}{kvs kvs':List (Key×V)}(I:IceAt C H p g) (ha:g.lds[n]? = some (a,kvs)) (hn:∀x∈g.lds,x.1≠g.ye) (nd:(g.lds.map (·.1)).Nodup) (e:Ext a H H') (h:H' a=some (.dK kvs')):IceAt C H' p { g with lds:=xk g.lds n kvs' }:=by
 have hm:=au ha
 have h0:=I.lds _ hm
 have f:∀{c:Addr} {o:HO},H c=some o->(∀z,o≠.dK z)->H' c=some o:=λh n=>e _ _ h (jp h h0 (n _))
 have hl:n<g.lds.length:=(List.getElem?_eq_some_iff.mp ha).1
 refine ⟨f I.ob (by walk_at "w"),f I.va (by walk_at "w"),I.rs.keep λ_ _ q=>f q (by walk_at "w"),f I.cy (by walk_at "w"),I.rows.imp λ_ _ q=>f q (by walk_at "w"),f I.sl (by walk_at "w"),Paired.mapP I.slopes λv w ⟨a,ea,q⟩=>⟨a,ea,f q (by walk_at "w")⟩,e _ _ I.ye (λz=>hn _ hm z.symm),(by show H' g.le=_;rw [Ym];exact f I.le (by walk_at "w")),λx hx=>?_⟩
 have hx':x∈xk g.lds n kvs':=hx
 obtain ⟨i,hi,ex⟩:=List.mem_iff_getElem.mp hx'
 have hi2:i<g.lds.length:=by unfold xk at hi;rw [ig] at hi;exact hi
 have ex2:(xk g.lds n kvs')[i]? = some x:=by rw [ag hi,ex]
 unfold xk at ex2
 rw [cN] at ex2
 by_cases en:n=i
 ·rw [if_pos en,if_pos ()] at ex2
  rw [<- bg ex2,ao,ha]
  exact h
 ·rw [if_neg en] at ex2
  refine e _ _ (I.lds x (au ex2)) λz=>en ?_
  have h1:(g.lds.map (·.1))[n]? = some a:=by rw [aq,ha];rfl
  have h2:(g.lds.map (·.1))[i]? = some a:=by rw [aq,ex2,<- z];rfl
  have l1:=(List.getElem?_eq_some_iff.mp h1).1
  have l2:=(List.getElem?_eq_some_iff.mp h2).1
  exact (oQ l1 nd).mp (h1.trans h2.symm)
noncomputable def JH (C CN CY CS:Addr):Sp:=λvs H Q E=>∃(p:Addr) (g:IceG) (l y m:Int),vs=[.ref p,.int l,.int y,.int m]/\IceAt C H p g/\g.lds.length=g.slopes.length/\(∀x∈g.lds,x.1≠g.ye)/\(g.lds.map (·.1)).Nodup/\(∀x∈g.lds,x.2.length<=1000) /\
 (∀H' a kvs,0<=l->l<(g.slopes.length:Int)->0<=y->y<=99->1<=m->m<=9->g.lds[l.toNat]? = some (a,kvs)->Ext a H H'->IceAt C H' p { g with lds:=xk g.lds l.toNat (qt kvs (.inl y) (.int m)) }->Q .non H') /\
 (l<0\/(g.slopes.length:Int)<=l->E (.ref CN) none H)/\(0<=l->l<(g.slopes.length:Int)->y<0\/99<y->E (.ref CY) none H)/\(0<=l->l<(g.slopes.length:Int)->0<=y->y<=99->m<1\/9<m->E (.ref CS) none H)
theorem kU:FnScope ["self","lane","year","many"] ["self","lane","year","many"] (j9 yr):=by walk_at "s"
theorem kQ {f C CN CY CS:Addr}{fd:FuncData}{u0:Tok}(nb:Nb2 mg) (T:IceC K C) (cl_Ice:Cls K C) (g_GREATEST_SURGE:mg "GREATEST_SURGE" = some (.int 9 u0)) (e_BadSurge:mg "BadSurge" = some (.ref CS)) (x_BadSurge:cZ K CS [.type "ValueError",.type "Exception",.type "BaseException",.type "object"] "ValueError.__new__" = true) (c_Ice__check_lane:CalMX P w K mg base 1 C "check_lane" ["self","lane"] (zO C CN)) (c_check_told:CalX P w K mg base 1 "check_told" ["year"] (xU CY)) (F:Fun K "surge" "Ice.surge" yr f fd):FnOk P w K mg base (CX1 P w) 2 f fd ["self","lane","year","many"] (JH C CN CY CS):=by
 refine Fun.okX F kU (λvs H Q E h=>?_) (λcdv A outer s H vs Q E hr h=>?_)
 ·obtain ⟨p,g,l,y,m,rfl,_⟩:=h
  rfl
 ·obtain ⟨p,g,l,y,m,rfl,I,hll,hn,nd,hk,k,kn,ky,ks⟩:=h
  refine ⟨_,(j7 (qi (yG (pv 0) cl_Ice c_Ice__check_lane (hr.mono ⋯) ze (j2 (pv 1) j5)))
   (j7 (qi (zi c_check_told (hr.mono ⋯) ze rfl (j2 (pv 2) j5)))
   (j7 (jB (qy (qC jS jS j6 (pv 3) (jF (v:=V.int 9) rfl g_GREATEST_SURGE ⟨_,rfl⟩))) (jb (xc bA x_BadSurge e_BadSurge rfl xN rfl (j2 jc j5))) jr)
   (jb (xf (jJ hr) (jk (jf K) (xL K (pv 0)) (pv 1) (λ_ _=>rfl)) (pv 2) (pv 3) rfl))))),?_⟩
  left
  refine ⟨p,g.dx,_,rfl,I.ob,xu ∅,?_⟩
  left
  refine ⟨p,g,l,rfl,I,λl0 l1=>?_,λhb=>kn hb⟩
  left
  refine ⟨λh0 h1=>?_,λhb=>ky l0 l1 hb⟩
  have hi:l.toNat<g.lds.length:=()
  left
  refine qo (λm0=>?_) (λm0=>?_)
  ·left
   refine xb (λm1=>?_) (λm1=>?_)
   ·left
    exact ⟨by show 1<=sizeLine;decide,ks l0 l1 h0 h1 (.inr ())⟩
   ·left
    refine ⟨p,C,g.dx,_,_,rfl,I.ob,T.cl,T.nL,zp _ _ _ _ _,?_⟩
    left
    refine ⟨_,_,_,_,rfl,rfl,SqL.of I.le,qG l0 (v:=V.ref (g.lds[l.toNat]'hi).1) (by rw [aq,ag hi];rfl),?_⟩
    left
    have h0':=I.lds _ (bW hi)
    refine ⟨_,_,rfl,vq.k (k:=.inl y) h0' (jh (hk _ (bW hi))),?_⟩
    exact k _ _ _ l0 l1 h0 h1 m0 m1 (ag hi) Ext.put (I.leap (ag hi) hn nd Ext.put j8)
  ·left
   refine zF ?_
   left
   exact ⟨by show 1<=sizeLine;decide,ks l0 l1 h0 h1 (.inl ())⟩
noncomputable def kvI (q:Int×Int):Key×V:=(.inl q.1,.int q.2)
noncomputable def zB:List (Int×Int)->Int->Int
 | [],_=>0
 | q::r,y=>if q.1=y then q.2 else zB r y
theorem vg:∀(ns:List (Int×Int)) (y:Int),y∈ns.map (·.1)->qx (ns.map kvI) (.inl y)=some (.int (zB ns y))
 | [],y,h=>by cases h
 | q::r,y,h=>by
  rw [b8]
  unfold qx zB
  by_cases e:q.1=y
  ·subst e
   simp [kvI,List.find?]
  ·have h':y∈r.map (·.1):=by
    rcases List.mem_cons.mp h with z | z
    ·exact absurd z.symm e
    ·exact z
   have ih:=vg r y h'
   unfold qx at ih
   simp [kvI,List.find?,e] at ih ⊢
   exact ih
theorem Qt:∀(ns:List (Int×Int)),(ns.map (·.1)).Nodup->(ns.map (·.1)).map (λy=>(y,zB ns y))=ns
 | [],_=>rfl
 | q::r,nd=>by
  rw [b8] at nd ⊢
  obtain ⟨h1,h2⟩:=List.nodup_cons.mp nd
  rw [b8]
  have e:zB (q::r) q.1=q.2:=by unfold zB;rw [if_pos rfl]
  rw [e]
  refine congrArg (q :: ·) ?_
  conv=>rhs;rw [<- Qt r h2]
  refine dO λy hy=>?_
  have hne:¬q.1=y:=λz=>h1 (z ▸ hy)
  show (y,zB (q::r) y)=_
  conv=>lhs;unfold zB
  rw [if_neg hne]
noncomputable def J0 (C CN:Addr):Sp:=λvs H Q E=>∃(p:Addr) (g:IceG) (l:Int),vs=[.ref p,.int l]/\IceAt C H p g/\g.lds.length=g.slopes.length/\(l<0\/(g.slopes.length:Int)<=l->E (.ref CN) none H) /\
 (0<=l->l<(g.slopes.length:Int)->∃(a:Addr) (ns:List (Int×Int)),g.lds[l.toNat]? = some (a,ns.map kvI)/\(ns.map (·.1)).Nodup/\ns.length<64 /\
  ∀o H' out (ms:List (Int×Int)),H o=none->H' o=some (.lst out)->dJ (λv (m:Int×Int)=>∃b,v=V.ref b/\H' b=some (.tup [.int m.1,.int m.2])) out ms->jq H H'->ms.Perm ns->(ms.map (·.1)).Pairwise (· <= ·)->Q (.ref o) H')
theorem wT:FnScope ["self","lane"] ["self","lane"] (j9 xP):=by walk_at "s"
theorem wP {f C CN:Addr}{fd:FuncData}(nb:Nb2 mg) (T:IceC K C) (cl_Ice:Cls K C) (c_Ice__check_lane:CalMX P w K mg base 1 C "check_lane" ["self","lane"] (zO C CN)) (F:Fun K "surges" "Ice.surges" xP f fd):FnOk P w K mg base (CX1 P w) 2 f fd ["self","lane"] (J0 C CN):=by
 refine Fun.okX F wT (λvs H Q E h=>?_) (λcdv A outer s H vs Q E hr h=>?_)
 ·obtain ⟨p,g,l,rfl,_⟩:=h
  rfl
 ·obtain ⟨p,g,l,rfl,I,hll,kx,k⟩:=h
  refine ⟨_,(j7 (qi (yG (pv 0) cl_Ice c_Ice__check_lane (hr.mono ⋯) ze (j2 (pv 1) j5)))
   (jb (jj (jW (osc:=(j9 xP)) (ON:=["self","lane"]) (N:=["year","lane","self"]) (own:=1) (caps:=[1,0]) ⟨rfl,∅,∅,∅,rfl,∅⟩ rfl rfl rfl (qm K (jd (Jc K rfl) rfl nb.b_sorted pL (j2 (jk (jf K) (xL K (pv 0)) (pv 1) (λ_ _=>rfl)) j5))) (λ_ _ _ _ _=>(ji (i:=0) (show aZ (["year","lane","self"]:List Str) by decide +kernel) rfl (bb rfl))) (λ_ _ _ _ _=>jH) (λ_ _ _ _ _=>(js (j2 (pv 0) (j2 (jA (jJ hr) (jk (jf K) (xL K (pv 2)) (pv 1) (λ_ _=>rfl)) (pv 0) (λ_ _=>rfl)) j5)))))))),?_⟩
  left
  refine ⟨p,g.dx,_,rfl,I.ob,xu ∅,?_⟩
  left
  refine ⟨p,g,l,rfl,I,λl0 l1=>?_,λhb=>kx hb⟩
  obtain ⟨a,ns,ha,nd,h64,k⟩:=k l0 l1
  have hi:=(List.getElem?_eq_some_iff.mp ha).1
  have hm:=I.lds _ (au ha)
  have hat:atI (g.lds.map λx=>V.ref x.1) l=some (.ref a):=qG l0 (by rw [aq,ha];rfl)
  left
  refine ⟨p,C,g.dx,_,_,rfl,I.ob,T.cl,T.nL,zp _ _ _ _ _,?_⟩
  left
  refine ⟨_,_,_,_,rfl,rfl,SqL.of I.le,hat,?_⟩
  refine ⟨a,ns.map kvI,ns.map (·.1),rfl,hm,by rw [bO,bO];rfl,by rw [af];exact h64,λo H1 ks ho ho1 s1 hp hs=>?_⟩
  have hkl:ks.length<64:=by rw [hp.length_eq,af];exact h64
  refine ⟨o,rfl,⟨_,SqL.of ho1⟩,λacc hacc=>?_⟩
  refine qc (K:=K) (a:=o) (xs:=ks.map V.int) (acc:=acc) (λi σ H2=>∃(x:Option V) (out:List V),σ=[x,some (.int l),some (.ref p)]/\H2 acc=some (.lst out)/\out.length=i/\dJ (λv (m:Int×Int)=>∃b,v=V.ref b/\H2 b=some (.tup [.int m.1,.int m.2])) out ((ks.take i).map λy=>(y,zB ns y))/\Ext acc H1 H2) ?_ ?_ ?_ ?_
  ·exact ⟨none,[],rfl,j8,rfl,.nil,Ext.put⟩
  ·rintro i σ H2 hi ⟨x,out,rfl,h2,hz,r2,e2⟩
   exact SqL.of (e2 _ _ ho1 (j4 ho1 hacc))
  ·rintro i v σ H2 hv ⟨x,out,rfl,h2,hz,r2,e2⟩
   obtain ⟨y,rfl,hy⟩:=vJ hv
   have hiy:=(List.getElem?_eq_some_iff.mp hy).1
   have hyn:y∈ns.map (·.1):=hp.mem_iff.mp (au hy)
   have t2:jq H H2:=λc o hc=>e2 _ _ (s1 _ _ hc) (j4 (s1 _ _ hc) hacc)
   have I2:=I.same t2
   left
   refine ⟨p,C,g.dx,_,_,rfl,I2.ob,T.cl,T.nL,zp _ _ _ _ _,?_⟩
   left
   refine ⟨_,_,_,_,rfl,rfl,SqL.of I2.le,hat,?_⟩
   left
   refine ⟨a,.int (zB ns y),rfl,by rw [<- vg ns y hyn];exact qr.k (k:=.inl y) (t2 _ _ hm),?_⟩
   left
   refine ⟨by show 2<=sizeLine;decide,λb H3 hb hb3 s3=>?_⟩
   have h3:=s3 _ _ h2
   have bacc:b≠acc:=(j4 h2 hb).symm
   refine ⟨out,h3,jh (),some (.int y),out++[.ref b],rfl,j8,by rw [az,hz];rfl,?_,λc o hc n=>by rw [ja n];exact s3 _ _ (e2 c o hc n)⟩
   rw [qE (λy=>(y,zB ns y)) ks i y hy]
   exact dh (Paired.mapP r2 λv m ⟨c,e,q⟩=>⟨c,e,by rw [ja (jp (s3 _ _ q) h3 (by walk_at "z"))];exact s3 _ _ q⟩) ⟨b,rfl,by rw [ja bacc];exact hb3⟩
  ·rintro σ H2 ⟨x,out,rfl,h2,hz,r2,e2⟩
   rw [af,br] at r2
   have t2:jq H H2:=λc o hc=>e2 _ _ (s1 _ _ hc) (j4 (s1 _ _ hc) hacc)
   refine k acc H2 out _ (s1.free hacc) h2 r2 t2 ?_ ?_
   ·have:=hp.map λy=>(y,zB ns y)
    rw [Qt ns nd] at this
    exact this
   ·rw [bO]
    have:((λx:Int×Int=>x.1) ∘ λy=>(y,zB ns y))=id:=rfl
    rw [this,mE]
    exact hs
noncomputable def G5 (H:Hp) (out:List V) (ms:List (Int×Int)):Prop:=dJ (λv (m:Int×Int)=>∃b,v=V.ref b/\H b=some (.tup [.int m.1,.int m.2])) out ms
noncomputable def UA:Sp:=λvs H Q _=>∃(L b:Addr),vs=[.ref b]/\jC L H b/\∀(v:Int) (H':Hp),0<=v->v<10 ^ 40-99->jC L H' b->Ext b H H'->Q (.int v) H'
theorem XO:FnScope ["_law_box_here"] ["_law_box_here"] (j9 uC):=by walk_at "s"
theorem U2 {v:Int}(a:0<=v) (b:v<4):∃n,atI [V.int 100,V.int (10 ^ 9),V.int (10 ^ 20),V.int (10 ^ 40-99)] v=some (V.int n)/\0<n/\n<=10 ^ 40-99:=by
 have h:v=0\/v=1\/v=2\/v=3:=()
 rcases h with rfl | rfl | rfl | rfl
 ·exact ⟨100,rfl,⋯,⋯⟩
 ·exact ⟨10 ^ 9,rfl,⋯,⋯⟩
 ·exact ⟨10 ^ 20,rfl,⋯,⋯⟩
 ·exact ⟨10 ^ 40-99,rfl,⋯,⋯⟩
theorem We {f:Addr}{fd:FuncData}(nb:Nb2 mg) (c_law_take:Cal P w K mg base 2 "_law_take" ["_law_box_here","_law_size"] qU) (F:Fun K "_law_far" "_law_far" uC f fd):FnOk P w K mg base CX0 3 f fd ["_law_box_here"] UA:=by
 refine F.ok XO (λvs H Q E h=>?_) (λcdv A outer s H vs Q E hr h=>?_)
 ·obtain ⟨L,b,rfl,_⟩:=h
  rfl
 ·obtain ⟨L,b,rfl,B,k⟩:=h
  refine ⟨_,(jb (jj (je c_law_take (hr.mono ⋯) rfl (j2 (pv 0) (j2 (jk (jf K) (jz (j2 j6 (j2 (jo zR j6 j6) (j2 (jo zR j6 j6) (j2 (jo xo (jo zR j6 j6) j6) j5))))) (je c_law_take (hr.mono ⋯) rfl (j2 (pv 0) (j2 j6 j5))) (λ_ _=>rfl)) j5))))),?_⟩
  left
  refine ⟨by show 4<=sizeLine;decide,λl H1 hl hl1 s1=>?_⟩
  left
  refine ⟨L,b,_,rfl,B.same s1,⟨⋯,⋯⟩,λv H2 v0 v1 B2 X2=>?_⟩
  obtain ⟨n,en,n0,n1⟩:=U2 v0 v1
  have lb:l≠b:=B.ne hl
  refine ⟨l,_,v,_,rfl,rfl,SqL.of (X2 _ _ hl1 lb),en,?_⟩
  left
  refine ⟨L,b,n,rfl,B2,⟨n0,iR n1 ⋯⟩,λv2 H3 v20 v21 B3 X3=>?_⟩
  exact k v2 H3 v20 () B3 (λc o hc nc=>X3 _ _ (X2 _ _ (s1 _ _ hc) nc) nc)
noncomputable def XX:Sp:=λvs H Q _=>∃(L b:Addr),vs=[.ref b]/\jC L H b/\∀(y:Int) (H':Hp),0<=y->y<=99->jC L H' b->Ext b H H'->Q (.int y) H'
theorem Q8:FnScope ["_law_box_here"] ["_law_box_here"] (j9 vD):=by walk_at "s"
theorem Ut {v a b c:Int}(h0:0<=v) (h1:v<5) (ha:0<=a/\a<=99) (hb:0<=b/\b<=99) (hc:0<=c/\c<=99):∃n,atI [V.int a,V.int b,V.int c,V.int 99,V.int 0] v=some (V.int n)/\0<=n/\n<=99:=by
 have h:v=0\/v=1\/v=2\/v=3\/v=4:=()
 rcases h with rfl | rfl | rfl | rfl | rfl
 ·exact ⟨a,rfl,ha.1,ha.2⟩
 ·exact ⟨b,rfl,hb.1,hb.2⟩
 ·exact ⟨c,rfl,hc.1,hc.2⟩
 ·exact ⟨99,rfl,⋯,⋯⟩
 ·exact ⟨0,rfl,⋯,⋯⟩
theorem Ul {f:Addr}{fd:FuncData}(c_law_take:Cal P w K mg base 2 "_law_take" ["_law_box_here","_law_size"] qU) (F:Fun K "_law_year" "_law_year" vD f fd):FnOk P w K mg base CX0 3 f fd ["_law_box_here"] XX:=by
 refine F.ok Q8 (λvs H Q E h=>?_) (λcdv A outer s H vs Q E hr h=>?_)
 ·obtain ⟨L,b,rfl,_⟩:=h
  rfl
 ·obtain ⟨L,b,rfl,B,k⟩:=h
  refine ⟨_,(jb (jj (jk (jf K) (jz (j2 (je c_law_take (hr.mono ⋯) rfl (j2 (pv 0) (j2 j6 j5))) (j2 (je c_law_take (hr.mono ⋯) rfl (j2 (pv 0) (j2 j6 j5))) (j2 (je c_law_take (hr.mono ⋯) rfl (j2 (pv 0) (j2 j6 j5))) (j2 j6 (j2 j6 j5)))))) (je c_law_take (hr.mono ⋯) rfl (j2 (pv 0) (j2 j6 j5))) (λ_ _=>rfl)))),?_⟩
  left
  refine ⟨L,b,_,rfl,B,⟨⋯,⋯⟩,λv1 H1 p1 q1 B1 X1=>?_⟩
  left
  refine ⟨L,b,_,rfl,B1,⟨⋯,⋯⟩,λv2 H2 p2 q2 B2 X2=>?_⟩
  left
  refine ⟨L,b,_,rfl,B2,⟨⋯,⋯⟩,λv3 H3 p3 q3 B3 X3=>?_⟩
  left
  refine ⟨by show 5<=sizeLine;decide,λl H4 hl hl4 s4=>?_⟩
  left
  refine ⟨L,b,_,rfl,B3.same s4,⟨⋯,⋯⟩,λv5 H5 p5 q5 B5 X5=>?_⟩
  obtain ⟨n,en,n0,n1⟩:=Ut p5 q5 (a:=v1) (b:=v2) (c:=v3) ⟨p1,()⟩ ⟨p2,()⟩ ⟨p3,()⟩
  refine ⟨_,_,_,_,rfl,rfl,SqL.of (X5 _ _ hl4 (B3.ne hl)),en,?_⟩
  exact k n H5 n0 n1 B5 ((((X1.trans X2).trans X3).trans (Ext.of_same s4)).trans X5)
noncomputable def scK (p q sg gl ll:Addr):List (Key×V):=[(.inr "reaches",.ref p),(.inr "rows",.ref q),(.inr "single",.ref sg),(.inr "grounds",.ref gl),(.inr "leaps",.ref ll)]
theorem zv {k:Key}{v:V}{r:List (Key×V)}:qx ((k,v)::r) k=some v:=by
 unfold qx
 rw [List.find?_cons_of_pos (p:=λkv:Key×V=>decide (kv.1=k)) (a:=(k,v)) (decide_eq_true rfl)]
 rfl
theorem jD {k k':Key}{v:V}{r:List (Key×V)}(h:k'≠k):qx ((k',v)::r) k=qx r k:=by
 unfold qx
 rw [List.find?_cons_of_neg (p:=λkv:Key×V=>decide (kv.1=k)) (a:=(k',v)) (λz=>h (of_decide_eq_true z))]
theorem XH (p q sg gl ll:Addr):qx (scK p q sg gl ll) (.inr "reaches")=some (.ref p):=zv
theorem ZB (p q sg gl ll:Addr):qx (scK p q sg gl ll) (.inr "rows")=some (.ref q):=(jD (show (aJ (aj "reaches"):Key)≠aJ (aj "rows") by decide +kernel)).trans (zv)
theorem xF (p q sg gl ll:Addr):qx (scK p q sg gl ll) (.inr "single")=some (.ref sg):=(jD (show (aJ (aj "reaches"):Key)≠aJ (aj "single") by decide +kernel)).trans ((jD (show (aJ (aj "rows"):Key)≠aJ (aj "single") by decide +kernel)).trans (zv))
theorem xh (p q sg gl ll:Addr):qx (scK p q sg gl ll) (.inr "grounds")=some (.ref gl):=(jD (show (aJ (aj "reaches"):Key)≠aJ (aj "grounds") by decide +kernel)).trans ((jD (show (aJ (aj "rows"):Key)≠aJ (aj "grounds") by decide +kernel)).trans ((jD (show (aJ (aj "single"):Key)≠aJ (aj "grounds") by decide +kernel)).trans (zv)))
theorem za (p q sg gl ll:Addr):qx (scK p q sg gl ll) (.inr "leaps")=some (.ref ll):=(jD (show (aJ (aj "reaches"):Key)≠aJ (aj "leaps") by decide +kernel)).trans ((jD (show (aJ (aj "rows"):Key)≠aJ (aj "leaps") by decide +kernel)).trans ((jD (show (aJ (aj "single"):Key)≠aJ (aj "leaps") by decide +kernel)).trans ((jD (show (aJ (aj "grounds"):Key)≠aJ (aj "leaps") by decide +kernel)).trans (zv))))
noncomputable def FrM (M:Addr->Prop) (H H':Hp):Prop:=∀c o,H c=some o->H' c=some o\/(M c/\∃ob kvs,o = .dK kvs/\H' c=some (.frz ob (.dK kvs)))
theorem FrM.of_same {M:Addr->Prop}{H H':Hp}(s:jq H H'):FrM M H H':=λc o h=>.inl (s c o h)
theorem FrM.trans {M:Addr->Prop}{H H1 H2:Hp}(a:FrM M H H1) (b:FrM M H1 H2):FrM M H H2:=λc o h=>by
 rcases a c o h with h1 | ⟨m,ob,kvs,e,h1⟩
 ·exact b c o h1
 ·rcases b c _ h1 with h2 | ⟨_,_,_,e2,_⟩
  ·exact .inr ⟨m,ob,kvs,e,h2⟩
  ·cases e2
theorem FrM.at {M:Addr->Prop}{H H':Hp}(f:FrM M H H') {c:Addr}{o:HO}(h:H c=some o) (n:∀kvs,o≠.dK kvs):H' c=some o:=by
 rcases f c o h with h1 | ⟨_,ob,kvs,e,_⟩
 ·exact h1
 ·exact absurd e (n kvs)
noncomputable def yw (ns:List (Int×Int)) (y:Int):Int:=((ns.filter λq=>decide (q.1<=y)).map (·.2)).sum
theorem uQ:∀{ns:List (Int×Int)},(ns.map (·.1)).Nodup->∀{z:Int×Int},z∈ns->zB ns z.1=z.2
 | [],_,z,h=>by cases h
 | q::r,nd,z,h=>by
  rw [b8] at nd
  obtain ⟨h1,h2⟩:=List.nodup_cons.mp nd
  unfold zB
  rcases List.mem_cons.mp h with e | e
  ·rw [e,if_pos rfl]
  ·have ne:¬q.1=z.1:=λw=>h1 (by rw [w];exact cP e)
   rw [if_neg ne]
   exact uQ h2 e
theorem Vn {ns:List (Int×Int)}{i:Nat}{q:Key×V}(h:(ns.map kvI)[i]? = some q):∃z,ns[i]? = some z/\q=kvI z:=by
 rw [aq] at h
 cases e:ns[i]? with
 | none=>rw [e] at h;cases h
 | some z=>rw [e] at h;cases h;exact ⟨z,rfl,rfl⟩
theorem gU {a acc:Addr}{o:Obj}{ns:List (Int×Int)}{y:Int}{H:Hp}{R:Hp->Prop}(h:H a=some (.frz o (.dK (ns.map kvI)))) (nd:(ns.map (·.1)).Nodup) (hl:ns.length<=100) (hacc:H acc=none)
  (fin:∀H',H' acc=some (.lst (((ns.filter λq=>decide (q.1<=y)).map (·.2)).map V.int))->jq H H'->R H') :
  ∃W:Nat->Nat->L2.St->Hp->Prop,(∃m,W 0 m [none,some (.ref a),some (.int y)] (upd H acc (.lst [])))/\∀i m σ' H',W i m σ' H' ->
   ((Itd a o (ns.map kvI)).stop i H'/\R H')\/((Itd a o (ns.map kvI)).go i H'/\∃NX:L2.St->Hp->Prop,(∀σ2 H2,NX σ2 H2->∃m',m'<m/\W (i+1) m' σ2 H2) /\
    ∀x H2,(Itd a o (ns.map kvI)).yld i H' x H2->uX 0 x σ' H2 λσ3 H3=>Q6 (tOp (rI0 λi j=>V.bl (decide (i<=j))) (y4 0) (y4 2)) σ3 H3 λok H4=>if ok=true then Ux (y4 1) (y4 0) σ3 H4 λv H5=>∃ys,H5 acc=some (.lst ys)/\ys.length<sizeLine/\NX σ3 (upd H5 acc (.lst (ys++[v]))) else NX σ3 H4):=by
 refine vf (a:=a) (acc:=acc) (o:=o) (kvs:=ns.map kvI) (λi σ H'=>∃x:Option V,σ=[x,some (.ref a),some (.int y)]/\H' acc=some (.lst ((((ns.take i).filter λq=>decide (q.1<=y)).map (·.2)).map V.int))/\Ext acc H H') ⟨none,rfl,j8,Ext.put⟩ ?_ ?_ ?_
 ·rintro i σ H' hi ⟨x,rfl,h3,e3⟩
  exact e3 _ _ h (j4 h hacc)
 ·rintro i q σ H' hq ⟨x,rfl,h3,e3⟩
  obtain ⟨z,hz,rfl⟩:=Vn hq
  have hm:=au hz
  have hi:i<ns.length:=(List.getElem?_eq_some_iff.mp hz).1
  have hl2:((((ns.take i).filter λq=>decide (q.1<=y)).map (·.2)).map V.int).length<=100:=by
   rw [af,af]
   exact aF (bo _ _) (by rw [aT];omega)
  have ha:=e3 _ _ h (j4 h hacc)
  show uX 0 (V.int z.1) _ _ _
  left
  refine qo (λle=>?_) (λle=>?_)
  ·refine ⟨_,rfl,_,rfl,a,V.int z.2,rfl,?_,_,h3,bI hl2 ⋯,_,rfl,?_,e3.trans Ext.put⟩
   ·have:=vg ns z.1 (cP hm)
    rw [uQ nd hm] at this
    rw [<- this]
    exact .inl ⟨_,.inl z.1,.inr ⟨o,ha⟩,rfl,rfl⟩
   ·rw [j8,bE,hz,dw,cc,fE (by rw [decide_eq_true le]),aC,aC]
    rfl
  ·refine ⟨_,rfl,?_,e3⟩
   rw [bE,hz,dw,cc,fD (by rw [decide_eq_false le];exact ar),pU,aP]
   exact h3
 ·rintro σ H' ⟨x,rfl,h3,e3⟩
  rw [af,br] at h3
  exact fin H' h3 λc u hc=>e3 c u hc (j4 hc hacc)
noncomputable def XY:Sp:=λvs H Q _=>∃(M:Addr->Prop) (sd p q sg gl ll a:Addr) (lds:List Addr) (l y:Int) (ns:List (Int×Int)),vs=[.ref sd,.int l,.int y]/\H sd=some (.dK (scK p q sg gl ll))/\H ll=some (.lst (lds.map V.ref))/\0<=l/\lds[l.toNat]? = some a/\Rd H a (.dK (ns.map kvI))/\M a/\¬M sd/\ns.length<=100/\(ns.map (·.1)).Nodup/\(∀q∈ns,0<=q.2/\q.2<=9) /\
 ∀H',FrM M H H'->Q (.int (y+yw ns y)) H'
theorem w9:FnScope ["_law_scene_here","_law_lane","_law_year_here","_law_leaps"] ["_law_scene_here","_law_lane","_law_year_here"] (j9 yf):=by walk_at "s"
theorem VI {f:Addr}{fd:FuncData}(nb:Nb2 mg) (F:Fun K "_law_ride" "_law_ride" yf f fd):FnOk P w K mg base CX0 1 f fd ["_law_scene_here","_law_lane","_law_year_here"] XY:=by
 refine F.ok w9 (λvs H Q E h=>?_) (λcdv A outer s H vs Q E hr h=>?_)
 ·obtain ⟨M,sd,p,q,sg,gl,ll,a,lds,l,y,ns,rfl,_⟩:=h
  rfl
 ·obtain ⟨M,sd,p,q,sg,gl,ll,a,lds,l,y,ns,rfl,hsd,hll,l0,ha,hra,hM,nsd,h100,nd,h9,k⟩:=h
  refine ⟨_,(j7 (uO (i:=3) w9.nd rfl (lR rfl) (jk (jf K) (jA (jJ hr) (pv 0) jc (λ_ _=>rfl)) (pv 1) (λ_ _=>rfl)))
   (jb (jj (jo qg (pv 2) (jd (wW K rfl) rfl nb.b_sum sR (j2 (jW (osc:=(j9 yf)) (ON:=["_law_scene_here","_law_lane","_law_year_here","_law_leaps"]) (N:=["_law_when","_law_leaps","_law_year_here"]) (own:=1) (caps:=[3,2]) ⟨rfl,∅,∅,∅,rfl,∅⟩ rfl rfl rfl (J9 (pv 3)) (λ_ _ _ _ _=>(ji (i:=0) (show aZ (["_law_when","_law_leaps","_law_year_here"]:List Str) by decide +kernel) rfl (bb rfl))) (λ_ _ _ _ _=>(y6 (jn jS (pv 0) (pv 2) (jt _)))) (λ_ _ _ _ _=>(jA (jJ hr) (pv 1) (pv 0) (λ_ _=>rfl)))) j5)))))),?_⟩
  left
  refine ⟨sd,.ref ll,rfl,by rw [<- za p q sg gl ll];exact qr.k (k:=.inr "leaps") hsd,?_⟩
  left
  refine ⟨_,_,_,_,rfl,rfl,SqL.of hll,qG l0 (v:=V.ref a) (by rw [aq,ha];rfl),?_⟩
  left
  have fin:∀(H1:Hp),FrM M H H1->∀acc H2,H2 acc=some (.lst (((ns.filter λq=>decide (q.1<=y)).map (·.2)).map V.int))->jq H1 H2->Xo [some (.ref sd),some (.int l),some (.int y),some (.ref a)] H2 λxs H3=>(∃(p:Addr) (ms:List Int),V.ref acc::xs=[V.ref p]/\SqL K H3 p (ms.map V.int)/\ms.length<=1000/\(∀n∈ms,0<=n/\n<=2 ^ 20)/\rI0 (λi j=>V.int (i+j)) (V.int y) (V.int ms.sum) H3 Q):=λH1 f1 acc H2 h2 s2=>by
   refine ⟨acc,_,rfl,SqL.of h2,?_,λn hn=>?_,?_⟩
   ·rw [af]
    exact aF (bo _ _) ()
   ·obtain ⟨z,hz,rfl⟩:=List.mem_map.mp hn
    have:=h9 z (List.mem_filter.mp hz).1
    exact ⟨this.1,Int.le_trans this.2 ⋯⟩
   ·exact ⟨_,_,rfl,rfl,k H2 (f1.trans (FrM.of_same s2))⟩
  rcases hra with h | ⟨o,h⟩
  ·refine ⟨a,_,rfl,.inl ⟨h,λo acc hacc=>?_⟩⟩
   have f1:FrM M H (upd H a (.frz o (.dK (ns.map kvI)))):=λc u hc=>by
    by_cases e:c=a
    ·subst e
     rw [h] at hc
     cases hc
     exact .inr ⟨hM,o,_,rfl,j8⟩
    ·exact .inl (by rw [ja e];exact hc)
   exact gU (a:=a) (o:=o) j8 nd h100 hacc λH2 h2 s2=>fin _ f1 acc H2 h2 s2
  ·refine ⟨a,_,rfl,.inr ⟨o,h,λacc hacc=>?_⟩⟩
   exact gU (a:=a) (o:=o) h nd h100 hacc λH2 h2 s2=>fin _ (FrM.of_same (jq.refl H)) acc H2 h2 s2
theorem xE (q:Int×Int) (r:List (Int×Int)) (y:Int):yw (q::r) y=(if q.1<=y then q.2 else 0)+yw r y:=by
 unfold yw
 rw [lH]
 by_cases h:q.1<=y
 ·rw [decide_eq_true h,if_pos rfl,if_pos h,b8,nv]
 ·rw [decide_eq_false h,if_neg ar,if_neg h,lV]
theorem XA {ms ns:List (Int×Int)}(p:ms.Perm ns) (y:Int):yw ms y=yw ns y:=by
 induction p with
 | nil=>rfl
 | cons q _ ih=>rw [xE,xE,ih]
 | swap a b r=>rw [xE,xE,xE,xE];omega
 | trans _ _ a b=>rw [a,b]
noncomputable def ur (CY:Addr):Sp:=λvs H Q E=>∃y:Int,vs=[.int y]/\(0<=y->y<=10 ^ 40->Q .non H)/\(y<0\/10 ^ 40<y->E (.ref CY) none H)
theorem kJ:FnScope ["year"] ["year"] (j9 zT):=by walk_at "s"
theorem wL {f CY:Addr}{fd:FuncData}{u0:Tok}(g_LAST_ASKED:mg "LAST_ASKED" = some (.int 10000000000000000000000000000000000000000 u0)) (e_BadYear:mg "BadYear" = some (.ref CY)) (x_BadYear:cZ K CY [.type "ValueError",.type "Exception",.type "BaseException",.type "object"] "ValueError.__new__" = true) (F:Fun K "check_asked" "check_asked" zT f fd):FnOk P w K mg base (CX1 P w) 1 f fd ["year"] (ur CY):=by
 refine Fun.okX F kJ (λvs H Q E h=>?_) (λcdv A outer s H vs Q E hr h=>?_)
 ·obtain ⟨y,rfl,_⟩:=h
  rfl
 ·obtain ⟨y,rfl,k,kx⟩:=h
  refine ⟨_,(jb (jB (qy (qC jS jS j6 (pv 0) (jF (v:=V.int 10000000000000000000000000000000000000000) rfl g_LAST_ASKED ⟨_,rfl⟩))) (jb (xc bA x_BadYear e_BadYear rfl xN rfl (j2 jc j5))) jr)),?_⟩
  left
  refine qo (λh0=>?_) (λh0=>?_)
  ·left
   refine xb (λh1=>?_) (λh1=>?_)
   ·left
    exact ⟨by show 1<=sizeLine;decide,kx (.inr ())⟩
   ·left
    exact k h0 h1
  ·left
   refine zF ?_
   left
   exact ⟨by show 1<=sizeLine;decide,kx (.inl ())⟩
noncomputable def Q9:Sp:=λvs H Q _=>∃(p:Addr) (out:List V) (ms:List (Int×Int)) (y:Int),vs=[.ref p,.int y]/\H p=some (.lst out)/\G5 H out ms/\ms.length<=100/\(∀q∈ms,0<=q.2/\q.2<=9)/\∀H',jq H H'->Q (.int (y+yw ms y)) H'
theorem Xe:FnScope ["surges","year"] ["surges","year"] (j9 vd):=by walk_at "s"
theorem Z1 {f:Addr}{fd:FuncData}(nb:Nb2 mg) (F:Fun K "ride_by" "ride_by" vd f fd):FnOk P w K mg base CX0 1 f fd ["surges","year"] Q9:=by
 refine F.ok Xe (λvs H Q E h=>?_) (λcdv A outer s H vs Q E hr h=>?_)
 ·obtain ⟨p,out,ms,y,rfl,_⟩:=h
  rfl
 ·obtain ⟨p,out,ms,y,rfl,hp,hq,h100,h9,k⟩:=h
  have hlen:out.length=ms.length:=aX hq
  refine ⟨_,(jb (jj (jo qg (pv 1) (jd (wW K rfl) rfl nb.b_sum sR (j2 (jW (osc:=(j9 vd)) (ON:=["surges","year"]) (N:=["when","many","year"]) (own:=2) (caps:=[1]) ⟨rfl,∅,∅,∅,rfl,∅⟩ rfl rfl rfl (qm K (pv 0)) (λ_ _ _ _ _=>(xB (n:=2) K rfl (jE (ji (i:=0) (show aZ (["when","many","year"]:List Str) by decide +kernel) rfl (bb rfl)) (jE (ji (i:=1) (show aZ (["when","many","year"]:List Str) by decide +kernel) rfl (bb rfl)) qV)))) (λ_ _ _ _ _=>(y6 (jn jS (pv 0) (pv 2) (jt _)))) (λ_ _ _ _ _=>(pv 1))) j5))))),?_⟩
  left
  refine ⟨⟨_,SqL.of hp⟩,λacc hacc=>?_⟩
  refine qc (K:=K) (a:=p) (xs:=out) (acc:=acc) (λi σ H2=>∃x x2:Option V,σ=[x,x2,some (.int y)]/\H2 acc=some (.lst ((((ms.take i).filter λq=>decide (q.1<=y)).map (·.2)).map V.int))/\Ext acc H H2) ?_ ?_ ?_ ?_
  ·exact ⟨none,none,rfl,j8,Ext.put⟩
  ·rintro i σ H2 hi ⟨x,x2,rfl,h2,e2⟩
   exact SqL.of (e2 _ _ hp (j4 hp hacc))
  ·rintro i v σ H2 hv ⟨x,x2,rfl,h2,e2⟩
   obtain ⟨m,hm,b,rfl,hb⟩:=Paired.get hq hv
   have hi:=(List.getElem?_eq_some_iff.mp hm).1
   have hl2:((((ms.take i).filter λq=>decide (q.1<=y)).map (·.2)).map V.int).length<=100:=by
    rw [af,af]
    exact aF (bo _ _) (by rw [aT];omega)
   left
   refine ⟨b,_,rfl,SqT.of (e2 _ _ hb (j4 hb hacc)),rfl,?_⟩
   refine ⟨_,_,rfl,_,_,rfl,rfl,?_⟩
   left
   refine qo (λle=>?_) (λle=>?_)
   ·left
    refine ⟨_,h2,bI hl2 ⋯,_,_,rfl,?_,e2.trans Ext.put⟩
    rw [j8,bE,hm,dw,cc,fE (by rw [decide_eq_true le]),aC,aC]
    rfl
   ·refine ⟨_,_,rfl,?_,e2⟩
    rw [bE,hm,dw,cc,fD (by rw [decide_eq_false le];exact ar),pU,aP]
    exact h2
  ·rintro σ H2 ⟨x,x2,rfl,h2,e2⟩
   rw [hlen,br] at h2
   left
   refine ⟨acc,_,rfl,SqL.of h2,?_,λn hn=>?_,?_⟩
   ·rw [af]
    exact aF (bo _ _) ()
   ·obtain ⟨z,hz,rfl⟩:=List.mem_map.mp hn
    have:=h9 z (List.mem_filter.mp hz).1
    exact ⟨this.1,Int.le_trans this.2 ⋯⟩
   ·exact ⟨_,_,rfl,rfl,k H2 λc o hc=>e2 c o hc (j4 hc hacc)⟩
noncomputable def Xm (g:IceG) (l:Int) (ns:List (Int×Int)):Prop:=0<=l/\l<(g.slopes.length:Int)/\(∃a,g.lds[l.toNat]? = some (a,ns.map kvI))/\(ns.map (·.1)).Nodup/\ns.length<64/\∀q∈ns,0<=q.2/\q.2<=9
noncomputable def wZ (C CN CY:Addr):Sp:=λvs H Q E=>∃(p:Addr) (g:IceG) (l y:Int),vs=[.ref p,.int l,.int y]/\IceAt C H p g/\g.lds.length=g.slopes.length/\(l<0\/(g.slopes.length:Int)<=l->E (.ref CN) none H) /\
 (0<=l->l<(g.slopes.length:Int)->∃ns,Xm g l ns/\(∀H',jq H H'->y<0\/10 ^ 40<y->E (.ref CY) none H')/\∀H',jq H H'->0<=y->y<=10 ^ 40->Q (.int (y+yw ns y)) H')
theorem J8:FnScope ["ice","lane","year","surges"] ["ice","lane","year"] (j9 ki):=by walk_at "s"
theorem ZR {f C CN CY:Addr}{fd:FuncData}(cl_Ice:Cls K C) (c_Ice__surges:CalMX P w K mg base 2 C "surges" ["self","lane"] (J0 C CN)) (c_check_asked:CalX P w K mg base 1 "check_asked" ["year"] (ur CY)) (c_ride_by:Cal P w K mg base 1 "ride_by" ["surges","year"] Q9) (F:Fun K "ridden" "ridden" ki f fd):FnOk P w K mg base (CX1 P w) 3 f fd ["ice","lane","year"] (wZ C CN CY):=by
 refine Fun.okX F J8 (λvs H Q E h=>?_) (λcdv A outer s H vs Q E hr h=>?_)
 ·obtain ⟨p,g,l,y,rfl,_⟩:=h
  rfl
 ·obtain ⟨p,g,l,y,rfl,I,hll,kx,k⟩:=h
  refine ⟨_,(j7 (ju 3 J8.nd (yG (pv 0) cl_Ice c_Ice__surges (hr.mono ⋯) ze (j2 (pv 1) j5)))
   (j7 (qi (zi c_check_asked (hr.mono ⋯) ze rfl (j2 (pv 2) j5)))
   (jb (jj (je c_ride_by (hr.mono ⋯) rfl (j2 (pv 3) (j2 (pv 2) j5))))))),?_⟩
  left
  refine ⟨p,g.dx,_,rfl,I.ob,xu ∅,?_⟩
  left
  refine ⟨p,g,l,rfl,I,hll,λhb=>kx hb,λl0 l1=>?_⟩
  obtain ⟨ns,⟨_,_,⟨a,ha⟩,nd,h64,h9⟩,ky,k⟩:=k l0 l1
  refine ⟨a,ns,ha,nd,h64,λo H1 out ms ho ho1 hq s1 hp hs=>?_⟩
  left
  refine ⟨λy0 y1=>?_,λhb=>ky H1 s1 hb⟩
  left
  refine ⟨o,out,ms,y,rfl,ho1,hq,(by rw [hp.length_eq];omega),λq hq'=>h9 q (hp.mem_iff.mp hq'),λH2 s2=>?_⟩
  rw [XA hp]
  exact k H2 (s1.trans s2) y0 y1
noncomputable def kvA (z:Int×Addr):Key×V:=(.inl z.1,.ref z.2)
noncomputable def qO {α:Type}(l:List (Int×α)) (y:Int) (a:α):List (Int×α):=if (l.any λz=>decide (z.1=y))=true then l.map (λz=>if z.1=y then (z.1,a) else z) else l++[(y,a)]
theorem zm {α:Type}(f:α->V) (l:List (Int×α)) (y:Int) (a:α):qt (l.map λz=>((.inl z.1,f z.2):Key×V)) (.inl y) (f a)=(qO l y a).map λz=>((.inl z.1,f z.2):Key×V):=by
 have e:∀z:Int,decide ((dU z:Key)=dU y)=decide (z=y):=λz=>decide_eq_decide.mpr ⟨λh=>eM h,λh=>by rw [h]⟩
 have e1:((l.map λz=>((.inl z.1,f z.2):Key×V)).any λkv=>decide (kv.1=(dU y:Key)))=l.any λz=>decide (z.1=y):=by
  rw [List.any_map]
  congr 1
  funext z
  exact e z.1
 unfold qt qO
 rw [e1]
 by_cases h:(l.any λz=>decide (z.1=y))=true
 ·rw [if_pos h,if_pos h,bO,bO]
  refine dO λz _=>?_
  show (if (dU z.1:Key)=dU y then _ else _)=_
  by_cases hz:z.1=y
  ·rw [if_pos (by rw [hz])]
   show _=(λz:Int×α=>((.inl z.1,f z.2):Key×V)) (if z.1=y then (z.1,a) else z)
   rw [if_pos hz]
  ·rw [if_neg (λw=>hz (eM w))]
   show _=(λz:Int×α=>((.inl z.1,f z.2):Key×V)) (if z.1=y then (z.1,a) else z)
   rw [if_neg hz]
 ·rw [if_neg h,if_neg h,aC]
  rfl
theorem ya {α:Type}{l:List (Int×α)}{y:Int}{a:α}{z:Int×α}(h:z∈qO l y a):z∈l\/z=(y,a):=by
 unfold qO at h
 by_cases c:(l.any λz=>decide (z.1=y))=true
 ·rw [if_pos c] at h
  obtain ⟨u,hu,e⟩:=List.mem_map.mp h
  by_cases q:u.1=y
  ·rw [if_pos q,q] at e
   exact .inr e.symm
  ·rw [if_neg q] at e
   exact .inl (e ▸ hu)
 ·rw [if_neg c] at h
  rcases List.mem_append.mp h with q | q
  ·exact .inl q
  ·exact .inr (by simpa using q)
theorem xY {α:Type}(l:List (Int×α)) (y:Int) (a:α):(qO l y a).length<=l.length+1:=by
 unfold qO
 split
 ·rw [af];omega
 ·rw [az];exact av _
theorem yg {α:Type}{l:List (Int×α)}{y:Int}{a:α}(h:(l.map (·.1)).Nodup):((qO l y a).map (·.1)).Nodup:=by
 unfold qO
 by_cases c:(l.any λz=>decide (z.1=y))=true
 ·rw [if_pos c,bO]
  have:(l.map ((λx=>x.1) ∘ λz=>if z.1=y then (z.1,a) else z))=l.map (·.1):=dO λz _=>by
   show (if z.1=y then (z.1,a) else z).1=z.1
   split <;> rfl
  rw [this]
  exact h
 ·rw [if_neg c,aC]
  refine uk h λz=>c ?_
  obtain ⟨u,hu,e⟩:=List.mem_map.mp z
  exact List.any_eq_true.mpr ⟨u,hu,decide_eq_true e⟩
structure ScN where
 p:Addr
 q:Addr
 sg:Addr
 gl:Addr
 ll:Addr
 xs:List V
 ys:List V
 zs:List V
 rs:List Rch
 ts:List T3
 ws:List (List Int)
 sk:List (Int×Addr)
 lds:List (Addr×List (Int×Int))
structure ScAt (H:Hp) (sd:Addr) (c:ScN):Prop where
 sd:H sd=some (.dK (scK c.p c.q c.sg c.gl c.ll))
 p:H c.p=some (.lst c.xs)
 rv:qe H c.xs c.rs
 q:H c.q=some (.lst c.ys)
 r3:jQ H c.ys c.ts
 gl:H c.gl=some (.lst c.zs)
 gi:yx H c.zs (c.ws.map (jm c.rs))
 ll:H c.ll=some (.lst (c.lds.map λx=>V.ref x.1))
 sg:Rd H c.sg (.dK (c.sk.map kvA))
 sk:∀z∈c.sk,∃t,H z.2=some (uT t)/\good t=true
 ld:∀x∈c.lds,Rd H x.1 (.dK (x.2.map kvI))
structure ScOk (b:Addr) (c:ScN):Prop where
 gr:Grown c.rs
 l1:1<=c.rs.length
 l8:c.rs.length<=8
 t1:1<=c.ts.length
 t2:c.ts.length<=12
 tg:c.ts.all good=true
 ro:qj c.rs c.ws
 ldl:c.lds.length=c.ws.length
 nd:(c.lds.map (·.1)).Nodup
 ns:∀x∈c.lds,x.1≠c.sg
 pb:c.p≠b
 qb:c.q≠b
 gb:c.gl≠b
 lb:c.ll≠b
 zb:V.ref b∉c.zs
 k1:(c.sk.map (·.1)).Nodup
 k2:∀z∈c.sk,0<=z.1/\z.1<=99
 k3:c.sk.length<=40
 m1:∀x∈c.lds,(x.2.map (·.1)).Nodup
 m2:∀x∈c.lds,∀z∈x.2,0<=z.1/\z.1<=99/\1<=z.2/\z.2<=9
 m3:∀x∈c.lds,x.2.length<=40
noncomputable def Fr3 (N M:Addr->Prop) (H H':Hp):Prop:=∀c o,H c=some o->¬N c->H' c=some o\/(M c/\∃ob kvs,o = .dK kvs/\H' c=some (.frz ob (.dK kvs)))
theorem Fr3.at {N M:Addr->Prop}{H H':Hp}(f:Fr3 N M H H') {c:Addr}{o:HO}(h:H c=some o) (n:¬N c) (d:∀kvs,o≠.dK kvs):H' c=some o:=by
 rcases f c o h n with h1 | ⟨_,ob,kvs,e,_⟩
 ·exact h1
 ·exact absurd e (d kvs)
theorem Fr3.rd {N M:Addr->Prop}{H H':Hp}(f:Fr3 N M H H') {c:Addr}{kvs:List (Key×V)}(n:¬N c) (h:Rd H c (.dK kvs)):Rd H' c (.dK kvs):=by
 rcases h with h | ⟨o,h⟩
 ·rcases f c _ h n with h1 | ⟨_,ob,kvs',e,h1⟩
  ·exact .inl h1
  ·cases e
   exact .inr ⟨ob,h1⟩
 ·exact .inr ⟨o,f.at h n (by walk_at "w")⟩
theorem pmM {α β:Type}{F G:α->β->Prop}:∀{l₁:List α}{l₂:List β},dJ F l₁ l₂->(∀v∈l₁,∀w,F v w->G v w)->dJ G l₁ l₂
 | _,_,.nil,_=>.nil
 | _,_,.cons q r,h=>.cons (h _ (bh ..) _ q) (pmM r λv hv=>h v (aK _ hv))
theorem ScAt.keep {N M:Addr->Prop}{H H':Hp}{sd:Addr}{c:ScN}(S:ScAt H sd c) (f:Fr3 N M H H') (nT:∀a xs,H a=some (.tup xs)->¬N a) (nsd:¬N sd) (msd:¬M sd) (np:¬N c.p) (nq:¬N c.q) (ng:¬N c.gl) (nl:¬N c.ll) (nz:∀a,V.ref a∈c.zs->¬N a) (ns:¬N c.sg) (nd:∀x∈c.lds,¬N x.1):ScAt H' sd c:=by
 have t:∀a xs,H a=some (.tup xs)->H' a=some (.tup xs):=λa xs h=>f.at h (nT a xs h) (by walk_at "w")
 refine ⟨?_,f.at S.p np (by walk_at "w"),S.rv.keep t,f.at S.q nq (by walk_at "w"),S.r3.imp λ_ _ h=>t _ _ h,f.at S.gl ng (by walk_at "w"),pmM S.gi λv hv w ⟨a,ea,q⟩=>⟨a,ea,f.at q (nz a (ea ▸ hv)) (by walk_at "w")⟩,f.at S.ll nl (by walk_at "w"),f.rd ns S.sg,λz hz=>?_,λx hx=>f.rd (nd x hx) (S.ld x hx)⟩
 ·rcases f _ _ S.sd nsd with z | ⟨z,_⟩
  ·exact z
  ·exact absurd z msd
 ·obtain ⟨u,hu,g⟩:=S.sk z hz
  exact ⟨u,t _ _ hu,g⟩
theorem ScAt.same {H H':Hp}{sd:Addr}{c:ScN}(S:ScAt H sd c) (s:jq H H'):ScAt H' sd c :=
 S.keep (N:=λ_=>False) (M:=λ_=>False) (λc o h _=>.inl (s c o h)) (λ_ _ _ z=>z) id id id id id id (λ_ _=>id) id (λ_ _=>id)
theorem ScAt.ext {L b:Addr}{H H':Hp}{sd:Addr}{c:ScN}(S:ScAt H sd c) (O:ScOk b c) (B:jC L H b) (e:Ext b H H'):ScAt H' sd c:=by
 obtain ⟨_,_,_,_,_,hb,_⟩:=B
 have nr:∀{a:Addr} {kvs:List (Key×V)},Rd H a (.dK kvs)->¬a=b:=λh z=>by
  rcases h with h | ⟨o,h⟩
  ·exact absurd z (jp h hb (by walk_at "z"))
  ·exact absurd z (jp h hb (by walk_at "z"))
 exact S.keep (N:=λa=>a=b) (M:=λ_=>False) (λc o h n=>.inl (e c o h n)) (λa xs h z=>absurd z (jp h hb (by walk_at "z"))) (jp S.sd hb (by walk_at "z")) id O.pb O.qb O.gb O.lb (λa h z=>O.zb (z ▸ h)) (nr S.sg) λx hx=>nr (S.ld x hx)
noncomputable def ScN.D (c:ScN) (a:Addr):Prop:=a=c.sg\/∃x∈c.lds,x.1=a
theorem W0 {p q sg gl ll:Addr}{α:Type}{f:α->V}{l:List (Int×α)}:scK p q sg gl ll≠l.map λz=>((.inl z.1,f z.2):Key×V):=λz=>by
 cases l with
 | nil=>cases z
 | cons u r =>
  have:=congrArg (λl=>l.head?.map (·.1)) z
  cases this
theorem Zd {H:Hp}{sd a p q sg gl ll:Addr}{α:Type}{f:α->V}{l:List (Int×α)}(h:H sd=some (.dK (scK p q sg gl ll))) (r:Rd H a (.dK (l.map λz=>((.inl z.1,f z.2):Key×V)))):a≠sd:=λz=>by
 subst z
 rcases r with r | ⟨o,r⟩
 ·rw [r] at h
  have e:l.map (λz=>((.inl z.1,f z.2):Key×V))=scK p q sg gl ll:=by injection h with h;injection h
  exact W0 e.symm
 ·rw [r] at h
  cases h
theorem ScAt.nD {H:Hp}{sd:Addr}{c:ScN}(S:ScAt H sd c):¬c.D sd:=λz=>by
 rcases z with z | ⟨x,hx,e⟩
 ·exact Zd (f:=V.ref) S.sd S.sg z.symm
 ·exact Zd (f:=V.int) S.sd (S.ld x hx) e
structure ScB (L b:Addr) (H H2:Hp) (sd:Addr) (c:ScN):Prop where
 S:ScAt H2 sd c
 O:ScOk b c
 r1:H2 c.sg=some (.dK (c.sk.map kvA))
 r2:∀x∈c.lds,H2 x.1=some (.dK (x.2.map kvI))
 B:jC L H2 b
 X:Ext b H H2
 f1:H c.sg=none
 f2:∀x∈c.lds,H x.1=none
theorem ScB.take {L b:Addr}{H H2 H3:Hp}{sd:Addr}{c:ScN}(S:ScB L b H H2 sd c) (B:jC L H3 b) (X:Ext b H2 H3):ScB L b H H3 sd c:=by
 have hb:∃xs,H2 b=some (.lst xs):=by
  obtain ⟨_,_,_,_,_,hb,_⟩:=S.B
  exact ⟨_,hb⟩
 obtain ⟨_,hb⟩:=hb
 exact ⟨S.S.ext S.O S.B X,S.O,X _ _ S.r1 (jp S.r1 hb (by walk_at "z")),λx hx=>X _ _ (S.r2 x hx) (jp (S.r2 x hx) hb (by walk_at "z")),B,S.X.trans X,S.f1,S.f2⟩
theorem ScB.same {L b:Addr}{H H2 H3:Hp}{sd:Addr}{c:ScN}(S:ScB L b H H2 sd c) (s:jq H2 H3):ScB L b H H3 sd c:=S.take (S.B.same s) (Ext.of_same s)
theorem xK {L b:Addr}{Ha Hb:Hp}(B:jC L Ha b) (e:Ext b Ha Hb):jy Ha Hb:=by
 obtain ⟨ns,a,r,c,d,h1,_⟩:=B
 exact jy.lst e h1
theorem ScB.single {L b:Addr}{H H2:Hp}{sd t:Addr}{c:ScN}{y:Int}{r:T3}(S:ScB L b H H2 sd c) (y0:0<=y) (y1:y<=99) (ht:H2 t=some (uT r)) (hg:good r=true) (hl:c.sk.length+1<=40) :
  ScB L b H (upd H2 c.sg (.dK (qt (c.sk.map kvA) (.inl y) (.ref t)))) sd { c with sk:=qO c.sk y t }:=by
 have e:qt (c.sk.map kvA) (.inl y) (.ref t)=(qO c.sk y t).map kvA:=zm V.ref c.sk y t
 rw [e]
 have nT:∀{a:Addr} {o:HO},H2 a=some o->(∀kvs,o≠.dK kvs)->(upd H2 c.sg (.dK ((qO c.sk y t).map kvA))) a=some o:=λh n=>by rw [ja (jp h S.r1 (n _))];exact h
 have sdn:sd≠c.sg:=(Zd (f:=V.ref) S.S.sd S.S.sg).symm
 have hb:∃xs,H2 b=some (.lst xs):=by
  obtain ⟨_,_,_,_,_,hb,_⟩:=S.B
  exact ⟨_,hb⟩
 obtain ⟨_,hb⟩:=hb
 have hL:∃xs,H2 L=some (.lst xs):=by
  obtain ⟨_,_,_,_,_,_,_,hL,_⟩:=S.B
  exact ⟨_,hL⟩
 obtain ⟨_,hL⟩:=hL
 refine ⟨⟨by rw [ja sdn];exact S.S.sd,nT S.S.p (by walk_at "w"),S.S.rv.keep λ_ _ h=>nT h (by walk_at "w"),nT S.S.q (by walk_at "w"),S.S.r3.imp λ_ _ h=>nT h (by walk_at "w"),nT S.S.gl (by walk_at "w"),pmM S.S.gi λv hv w ⟨a,ea,q⟩=>⟨a,ea,nT q (by walk_at "w")⟩,nT S.S.ll (by walk_at "w"),.inl j8,λz hz=>?_,λx hx=>.inl (by rw [ja (S.O.ns x hx)];exact S.r2 x hx)⟩,?_,j8,λx hx=>by rw [ja (S.O.ns x hx)];exact S.r2 x hx,S.B.put (jp S.r1 hb (by walk_at "z")) (jp S.r1 hL (by walk_at "z")),λd o hd n=>?_,S.f1,S.f2⟩
 ·rcases ya hz with z | z
  ·obtain ⟨u,hu,g⟩:=S.S.sk _ z
   exact ⟨u,nT hu (by walk_at "w"),g⟩
  ·subst z
   exact ⟨r,nT ht (by walk_at "w"),hg⟩
 ·have O:=S.O
  exact ⟨O.gr,O.l1,O.l8,O.t1,O.t2,O.tg,O.ro,O.ldl,O.nd,O.ns,O.pb,O.qb,O.gb,O.lb,O.zb,yg O.k1,λz hz=>by
   rcases ya hz with q | q
   ·exact O.k2 z q
   ·subst q;exact ⟨y0,y1⟩,aF (xY _ _ _) hl,O.m1,O.m2,O.m3⟩
 ·rw [ja (j4 hd S.f1)]
  exact S.X d o hd n
theorem uu {α β:Type}{l:List (α×β)}{n:Nat}{a:α}{u v:β}(nd:(l.map (·.1)).Nodup) (hn:l[n]? = some (a,u)) {x:α×β}(hx:x∈l.set n (a,v)):x=(a,v)\/(x∈l/\x.1≠a):=by
 obtain ⟨i,hi,e⟩:=List.mem_iff_getElem.mp hx
 have hi':i<l.length:=by rw [ig] at hi;exact hi
 obtain ⟨hn1,hn2⟩:=List.getElem?_eq_some_iff.mp hn
 by_cases q:n=i
 ·subst q
  rw [List.getElem_set_self] at e
  exact .inl e.symm
 ·rw [List.getElem_set_ne q] at e
  refine .inr ⟨e ▸ bW hi',λz=>q ?_⟩
  have h1:(l.map (·.1))[n]'(by rw [af];exact hn1)=(l.map (·.1))[i]'(by rw [af];exact hi'):=by
   rw [fX,fX,hn2,e,z]
  rcases Nat.lt_trichotomy n i with g | g | g
  ·exact absurd h1 (List.pairwise_iff_getElem.mp nd n i _ _ g)
  ·exact g
  ·exact absurd h1.symm (List.pairwise_iff_getElem.mp nd i n _ _ g)
theorem Zy {α β:Type}{l:List (α×β)}{n:Nat}{a:α}{u v:β}(hn:l[n]? = some (a,u)):(l.set n (a,v)).map (·.1)=l.map (·.1):=by
 obtain ⟨hn1,hn2⟩:=List.getElem?_eq_some_iff.mp hn
 rw [d4]
 refine dI λi=>?_
 rw [cN]
 by_cases q:n=i
 ·subst q
  rw [if_pos rfl,if_pos (by rw [af];exact hn1),aq,hn]
  rfl
 ·rw [if_neg q]
theorem ScB.leap {L b:Addr}{H H2:Hp}{sd a:Addr}{c:ScN}{n:Nat}{y m:Int}{ns:List (Int×Int)}(S:ScB L b H H2 sd c) (hn:c.lds[n]? = some (a,ns)) (y0:0<=y) (y1:y<=99) (m0:1<=m) (m1:m<=9) (hl:ns.length+1<=40) :
  ScB L b H (upd H2 a (.dK (qt (ns.map kvI) (.inl y) (.int m)))) sd { c with lds:=c.lds.set n (a,qO ns y m) }:=by
 have e:qt (ns.map kvI) (.inl y) (.int m)=(qO ns y m).map kvI:=zm V.int ns y m
 rw [e]
 have hm:=au hn
 have ra:=S.r2 _ hm
 have nT:∀{d:Addr} {o:HO},H2 d=some o->(∀kvs,o≠.dK kvs)->(upd H2 a (.dK ((qO ns y m).map kvI))) d=some o:=λh n=>by rw [ja (jp h ra (n _))];exact h
 have sdn:sd≠a:=(Zd (f:=V.int) S.S.sd (S.S.ld _ hm)).symm
 have hb:∃xs,H2 b=some (.lst xs):=by
  obtain ⟨_,_,_,_,_,hb,_⟩:=S.B
  exact ⟨_,hb⟩
 obtain ⟨_,hb⟩:=hb
 have hL:∃xs,H2 L=some (.lst xs):=by
  obtain ⟨_,_,_,_,_,_,_,hL,_⟩:=S.B
  exact ⟨_,hL⟩
 obtain ⟨_,hL⟩:=hL
 have fs:=Zy (v:=qO ns y m) hn
 have fs2:(c.lds.set n (a,qO ns y m)).map (λx=>V.ref x.1)=c.lds.map λx=>V.ref x.1:=by
  have:=congrArg (iM V.ref) fs
  rw [bO,bO] at this
  exact this
 have sg:c.sg≠a:=(S.O.ns _ hm).symm
 have r2:∀x∈c.lds.set n (a,qO ns y m),(upd H2 a (.dK ((qO ns y m).map kvI))) x.1=some (.dK (x.2.map kvI)):=λx hx=>by
  rcases uu S.O.nd hn hx with z | ⟨z,w⟩
  ·subst z
   exact j8
  ·rw [ja w]
   exact S.r2 x z
 have mem:∀x∈c.lds.set n (a,qO ns y m),∃x'∈c.lds,x'.1=x.1:=λx hx=>by
  have:x.1∈(c.lds.set n (a,qO ns y m)).map (·.1):=cP hx
  rw [fs] at this
  exact List.mem_map.mp this
 have O:=S.O
 refine ⟨⟨by rw [ja sdn];exact S.S.sd,nT S.S.p (by walk_at "w"),S.S.rv.keep λ_ _ h=>nT h (by walk_at "w"),nT S.S.q (by walk_at "w"),S.S.r3.imp λ_ _ h=>nT h (by walk_at "w"),nT S.S.gl (by walk_at "w"),pmM S.S.gi λv hv w ⟨a,ea,q⟩=>⟨a,ea,nT q (by walk_at "w")⟩,?_,.inl (by show upd _ _ _ c.sg=_;rw [ja sg];exact S.r1),λz hz=>?_,λx hx=>.inl (r2 x hx)⟩,⟨O.gr,O.l1,O.l8,O.t1,O.t2,O.tg,O.ro,?_,?_,?_,O.pb,O.qb,O.gb,O.lb,O.zb,O.k1,O.k2,O.k3,?_,?_,?_⟩,(by show upd _ _ _ c.sg=_;rw [ja sg];exact S.r1),r2,S.B.put (jp ra hb (by walk_at "z")) (jp ra hL (by walk_at "z")),λd o hd n=>?_,S.f1,?_⟩
 ·show _=some (HO.lst ((c.lds.set n (a,qO ns y m)).map λx=>V.ref x.1))
  rw [fs2]
  exact nT S.S.ll (by walk_at "w")
 ·obtain ⟨u,hu,g⟩:=S.S.sk _ hz
  exact ⟨u,nT hu (by walk_at "w"),g⟩
 ·show (c.lds.set n (a,qO ns y m)).length=_
  rw [ig]
  exact O.ldl
 ·show ((c.lds.set n (a,qO ns y m)).map (·.1)).Nodup
  rw [fs]
  exact O.nd
 ·intro x hx
  obtain ⟨x',h1,h2⟩:=mem x hx
  rw [<- h2]
  exact O.ns x' h1
 ·intro x hx
  rcases uu S.O.nd hn hx with z | ⟨z,w⟩
  ·subst z;exact yg (O.m1 _ hm)
  ·exact O.m1 x z
 ·intro x hx
  rcases uu S.O.nd hn hx with z | ⟨z,w⟩
  ·subst z
   intro u hu
   rcases ya hu with q | q
   ·exact O.m2 _ hm u q
   ·subst q;exact ⟨y0,y1,m0,m1⟩
  ·exact O.m2 x z
 ·intro x hx
  rcases uu S.O.nd hn hx with z | ⟨z,w⟩
  ·subst z;exact aF (xY _ _ _) hl
  ·exact O.m3 x z
 ·rw [ja (j4 hd (S.f2 _ hm))]
  exact S.X d o hd n
 ·intro x hx
  obtain ⟨x',h1,h2⟩:=mem x hx
  rw [<- h2]
  exact S.f2 x' h1
theorem put4 {p q sg gl:Addr}:qt (x4 [] [(.inr "reaches",.ref p),(.inr "rows",.ref q),(.inr "single",.ref sg)]) (.inr "grounds") (.ref gl)=[((.inr "reaches",.ref p):Key×V),(.inr "rows",.ref q),(.inr "single",.ref sg),(.inr "grounds",.ref gl)]:=by
 have e1:(qt [] (.inr "reaches") (.ref p):List (Key×V))=[(.inr "reaches",.ref p)]:=yM _ yK
 have e2:qt [((.inr "reaches",.ref p):Key×V)] (.inr "rows") (.ref q)=[(.inr "reaches",.ref p),(.inr "rows",.ref q)]:=yM _ ((jD (show (aJ (aj "reaches"):Key)≠aJ (aj "rows") by decide +kernel)).trans yK)
 have e3:qt [((.inr "reaches",.ref p):Key×V),(.inr "rows",.ref q)] (.inr "single") (.ref sg)=[(.inr "reaches",.ref p),(.inr "rows",.ref q),(.inr "single",.ref sg)]:=yM _ ((jD (show (aJ (aj "reaches"):Key)≠aJ (aj "single") by decide +kernel)).trans ((jD (show (aJ (aj "rows"):Key)≠aJ (aj "single") by decide +kernel)).trans yK))
 have e4:qt [((.inr "reaches",.ref p):Key×V),(.inr "rows",.ref q),(.inr "single",.ref sg)] (.inr "grounds") (.ref gl)=[((.inr "reaches",.ref p):Key×V),(.inr "rows",.ref q),(.inr "single",.ref sg),(.inr "grounds",.ref gl)]:=yM _ ((jD (show (aJ (aj "reaches"):Key)≠aJ (aj "grounds") by decide +kernel)).trans ((jD (show (aJ (aj "rows"):Key)≠aJ (aj "grounds") by decide +kernel)).trans ((jD (show (aJ (aj "single"):Key)≠aJ (aj "grounds") by decide +kernel)).trans yK)))
 have e:x4 [] [((.inr "reaches",.ref p):Key×V),(.inr "rows",.ref q),(.inr "single",.ref sg)]=[(.inr "reaches",.ref p),(.inr "rows",.ref q),(.inr "single",.ref sg)]:=by
  show qt (qt (qt ([]:List (Key×V)) (.inr "reaches") (.ref p)) (.inr "rows") (.ref q)) (.inr "single") (.ref sg)=_
  rw [e1,e2,e3]
 rw [e,e4]
theorem put5 {p q sg gl ll:Addr}:qt [((.inr "reaches",.ref p):Key×V),(.inr "rows",.ref q),(.inr "single",.ref sg),(.inr "grounds",.ref gl)] (.inr "leaps") (.ref ll)=scK p q sg gl ll :=
 yM _ ((jD (show (aJ (aj "reaches"):Key)≠aJ (aj "leaps") by decide +kernel)).trans ((jD (show (aJ (aj "rows"):Key)≠aJ (aj "leaps") by decide +kernel)).trans ((jD (show (aJ (aj "single"):Key)≠aJ (aj "leaps") by decide +kernel)).trans ((jD (show (aJ (aj "grounds"):Key)≠aJ (aj "leaps") by decide +kernel)).trans yK))))
theorem Qd (p q sg gl:Addr):qx [((.inr "reaches",.ref p):Key×V),(.inr "rows",.ref q),(.inr "single",.ref sg),(.inr "grounds",.ref gl)] (.inr "grounds")=some (.ref gl):=(jD (show (aJ (aj "reaches"):Key)≠aJ (aj "grounds") by decide +kernel)).trans ((jD (show (aJ (aj "rows"):Key)≠aJ (aj "grounds") by decide +kernel)).trans ((jD (show (aJ (aj "single"):Key)≠aJ (aj "grounds") by decide +kernel)).trans zv))
theorem Zr {rs:List Rch}(G:Grown rs):∀r∈rs,r.2.length<=12:=λr hr=>by
 obtain ⟨i,hi,e⟩:=List.mem_iff_getElem.mp hr
 have:=Je G.ok (ag hi)
 rw [e] at this
 unfold okR at this
 rw [ba,ba] at this
 have:=of_decide_eq_true this.1.2
 omega
theorem VG {v:Int}(a:0<=v) (b:v<3):∃n,atI [V.int 1,V.int 4,V.int 9] v=some (V.int n)/\0<n/\n<=9:=by
 have h:v=0\/v=1\/v=2:=()
 rcases h with rfl | rfl | rfl
 ·exact ⟨1,rfl,(),()⟩
 ·exact ⟨4,rfl,(),()⟩
 ·exact ⟨9,rfl,(),()⟩
theorem Ui {v:Int}(a:0<=v) (b:v<3):∃n,atI [V.int 1,V.int 3,V.int 7] v=some (V.int n)/\0<n/\n<=7:=by
 have h:v=0\/v=1\/v=2:=()
 rcases h with rfl | rfl | rfl
 ·exact ⟨1,rfl,(),()⟩
 ·exact ⟨3,rfl,(),()⟩
 ·exact ⟨7,rfl,(),()⟩
theorem Gs {v:Int}(a:0<=v) (b:v<2):∃n,atI [V.int 2,V.int 9] v=some (V.int n)/\0<n/\n<=9:=by
 have h:v=0\/v=1:=()
 rcases h with rfl | rfl
 ·exact ⟨2,rfl,(),()⟩
 ·exact ⟨9,rfl,(),()⟩
theorem gy {rs:List Rch}(L:xi rs) (h:1<=rs.length):1<=(jw rs).length:=by
 have:(rs.length-1)∈jw rs:=by
  refine List.mem_filter.mpr ⟨List.mem_range.mpr (),?_⟩
  unfold jU
  rw [decide_eq_false]
  ·rfl
  ·intro z
   have:=Xp L z
   omega
 exact fO this
noncomputable def Zo:Sp:=λvs H Q _=>∃(L b:Addr),vs=[.ref b]/\jC L H b/\∀sd H' c,jC L H' b->Ext b H H'->ScAt H' sd c->ScOk b c->c.sk.length<=10->(∀x∈c.lds,x.2.length<=10)->Q (.ref sd) H'
theorem qT:FnScope ["_law_box_here","_law_reaches_here","_law_scene_here","_law_turn","_law_lane"] ["_law_box_here"] (j9 xR):=by walk_at "s"
theorem V5 {f:Addr}{fd:FuncData}(nb:Nb2 mg) (c_law_take:Cal P w K mg base 2 "_law_take" ["_law_box_here","_law_size"] qU) (c_law_reaches:Cal P w K mg base 4 "_law_reaches" ["_law_box_here"] kA) (c_law_round:Cal P w K mg base 4 "_law_round" ["_law_box_here"] yV) (c_law_ground:Cal P w K mg base 1 "_law_ground" ["_law_reaches_here","_law_road"] (JW K)) (c_law_roads:Cal P w K mg base 1 "_law_roads" ["_law_reaches_here"] (Qg K)) (c_law_year:Cal P w K mg base 3 "_law_year" ["_law_box_here"] XX) (c_law_weather:Cal P w K mg base 3 "_law_weather" ["_law_box_here"] ve)
  (F:Fun K "_law_scene" "_law_scene" xR f fd):FnOk P w K mg base CX0 5 f fd ["_law_box_here"] Zo:=by
 refine F.ok qT (λvs H Q E h=>?_) (λcdv A outer s H vs Q E hr h=>?_)
 ·obtain ⟨L,b,rfl,_⟩:=h
  rfl
 ·obtain ⟨L,b,rfl,B,k⟩:=h
  refine ⟨_,(j7 (uO (i:=1) qT.nd rfl (lR rfl) (je c_law_reaches (hr.mono ⋯) rfl (j2 (pv 0) j5)))
   (j7 (ju 2 qT.nd (VJ (kq jc (pv 1) (kq jc (je c_law_round (hr.mono ⋯) rfl (j2 (pv 0) j5)) (kq jc vY VZ))) rfl rfl (λz=>by cases z) ⋯))
   (j7 (xf (jJ hr) (pv 2) jc (jW (osc:=(j9 xR)) (ON:=["_law_box_here","_law_reaches_here","_law_scene_here","_law_turn","_law_lane"]) (N:=["_law_road","_law_reaches_here"]) (own:=1) (caps:=[1]) ⟨rfl,∅,∅,∅,rfl,∅⟩ rfl rfl rfl (qm K (je c_law_roads (hr.mono ⋯) rfl (j2 (pv 1) j5))) (λ_ _ _ _ _=>(ji (i:=0) (show aZ (["_law_road","_law_reaches_here"]:List Str) by decide +kernel) rfl (bb rfl))) (λ_ _ _ _ _=>jH) (λ_ _ _ _ _=>(je c_law_ground (hr.mono ⋯) rfl (j2 (pv 1) (j2 (pv 0) j5))))) rfl)
   (qW (xf (jJ hr) (pv 2) jc (jW (osc:=(j9 xR)) (ON:=["_law_box_here","_law_reaches_here","_law_scene_here","_law_turn","_law_lane"]) (N:=["_law_ground_here"]) (own:=1) (caps:=[]) ⟨rfl,∅,∅,∅,rfl,∅⟩ rfl rfl rfl (qm K (jA (jJ hr) (pv 2) jc (λ_ _=>rfl))) (λ_ _ _ _ _=>(ji (i:=0) (show aZ (["_law_ground_here"]:List Str) by decide +kernel) rfl (bb rfl))) (λ_ _ _ _ _=>jH) (λ_ _ _ _ _=>vY)) rfl)
   (qW (xI bG rfl (qL rfl nb.b_range (j2 (je c_law_take (hr.mono ⋯) rfl (j2 (pv 0) (j2 (jk (jf K) (jz (j2 j6 (j2 j6 (j2 j6 j5)))) (je c_law_take (hr.mono ⋯) rfl (j2 (pv 0) (j2 j6 j5))) (λ_ _=>rfl)) j5))) j5)) (ji (i:=3) qT.nd rfl (bb rfl)) (jb (xf (jJ hr) (jA (jJ hr) (pv 2) jc (λ_ _=>rfl)) (je c_law_year (hr.mono ⋯) rfl (j2 (pv 0) j5)) (je c_law_weather (hr.mono ⋯) rfl (j2 (pv 0) j5)) rfl)))
   (j7 (xI bG rfl (qL rfl nb.b_range (j2 (je c_law_take (hr.mono ⋯) rfl (j2 (pv 0) (j2 (jk (jf K) (jz (j2 j6 (j2 j6 (j2 j6 j5)))) (je c_law_take (hr.mono ⋯) rfl (j2 (pv 0) (j2 j6 j5))) (λ_ _=>rfl)) j5))) j5)) (ji (i:=3) qT.nd rfl (bb rfl)) (j7 (ju 4 qT.nd (je c_law_take (hr.mono ⋯) rfl (j2 (pv 0) (j2 (jd (jg K) rfl nb.b_len aR (j2 (jA (jJ hr) (pv 2) jc (λ_ _=>rfl)) j5)) j5))))
   (jb (xf (jJ hr) (jk (jf K) (jA (jJ hr) (pv 2) jc (λ_ _=>rfl)) (pv 4) (λ_ _=>rfl)) (je c_law_year (hr.mono ⋯) rfl (j2 (pv 0) j5)) (jo qg j6 (je c_law_take (hr.mono ⋯) rfl (j2 (pv 0) (j2 (jk (jf K) (jz (j2 j6 (j2 j6 j5))) (je c_law_take (hr.mono ⋯) rfl (j2 (pv 0) (j2 j6 j5))) (λ_ _=>rfl)) j5)))) rfl))))
   (jb (jj (pv 2))))))))),?_⟩
  left
  refine ⟨L,b,rfl,B,λp H1 xs rs B1 X1 hp hp1 r1 g1 l1 l8=>?_⟩
  have pb:p≠b:=B.ne hp
  left
  intro sd hsd
  have sdb:sd≠b:=B1.ne hsd
  have sd0:H sd=none:=X1.free hsd sdb
  left
  have Ba:jC L (upd H1 sd (.dK [])) b:=B1.put sdb (B1.neL hsd)
  refine ⟨L,b,rfl,Ba,λq Hb ys ts Bb Xb hq hqb r3b ht12 htg=>?_⟩
  have qb:q≠b:=Ba.ne hq
  have qsd:q≠sd:=λz=>by rw [z,j8] at hq;cases hq
  have sdB:Hb sd=some (.dK []):=Xb _ _ j8 sdb
  have pB:Hb p=some (.lst xs):=Xb _ _ (by rw [ja (j4 hp1 hsd)];exact hp1) pb
  have rB:qe Hb xs rs:=(r1.keep (jy.same (jq.new hsd))).keep (xK Ba Xb)
  have XB:Ext b H Hb:=(X1.trans (Ext.new hsd)).trans Xb
  left
  intro sg hsg
  have sgb:sg≠b:=Bb.ne hsg
  have sg0:H sg=none:=XB.free hsg sgb
  have sgsd:sg≠sd:=(j4 sdB hsg).symm
  left
  refine ⟨by rw [ja sgsd.symm];exact sdB,[(.inr "reaches",.ref p),(.inr "rows",.ref q),(.inr "single",.ref sg)],rfl,by show 3<=15;decide,?_⟩
  have sC:jq Hb (upd Hb sg (.dK [])):=jq.new hsg
  have nD:∀{a:Addr} {o:HO},Hb a=some o->a≠sd->(upd (upd Hb sg (.dK [])) sd (.dK (x4 [] [(.inr "reaches",.ref p),(.inr "rows",.ref q),(.inr "single",.ref sg)]))) a=some o:=λh n=>by rw [ja n];exact sC _ _ h
  have dD:(upd (upd Hb sg (.dK [])) sd (.dK (x4 [] [(.inr "reaches",.ref p),(.inr "rows",.ref q),(.inr "single",.ref sg)]))) sd=some (.dK (x4 [] [(.inr "reaches",.ref p),(.inr "rows",.ref q),(.inr "single",.ref sg)])):=j8
  have pD:=nD pB (jp pB sdB (by walk_at "z"))
  have rD:qe (upd (upd Hb sg (.dK [])) sd (.dK (x4 [] [(.inr "reaches",.ref p),(.inr "rows",.ref q),(.inr "single",.ref sg)]))) xs rs:=rB.keep λ_ _ h=>nD h (jp h sdB (by walk_at "z"))
  have qD:=nD hqb qsd
  have r3D:jQ (upd (upd Hb sg (.dK [])) sd (.dK (x4 [] [(.inr "reaches",.ref p),(.inr "rows",.ref q),(.inr "single",.ref sg)]))) ys ts:=r3b.imp λ_ _ h=>nD h (jp h sdB (by walk_at "z"))
  have sgD:(upd (upd Hb sg (.dK [])) sd (.dK (x4 [] [(.inr "reaches",.ref p),(.inr "rows",.ref q),(.inr "single",.ref sg)]))) sg=some (.dK []):=by rw [ja sgsd];exact j8
  have BD:jC L (upd (upd Hb sg (.dK [])) sd (.dK (x4 [] [(.inr "reaches",.ref p),(.inr "rows",.ref q),(.inr "single",.ref sg)]))) b:=(Bb.same sC).put sdb (B1.neL hsd)
  have XD:Ext b H (upd (upd Hb sg (.dK [])) sd (.dK (x4 [] [(.inr "reaches",.ref p),(.inr "rows",.ref q),(.inr "single",.ref sg)]))):=λc o h n=>nD (XB c o h n) (j4 h sd0)
  clear nD sC hsg sdB pB rB XB hqb r3b Bb Xb hq Ba
  generalize (upd (upd Hb sg (.dK [])) sd (.dK (x4 [] [(.inr "reaches",.ref p),(.inr "rows",.ref q),(.inr "single",.ref sg)])))=Hd at *
  have Ld:=qp g1.ok
  left
  refine ⟨p,xs,rs,rfl,pD,rD,Ld,(),λl He out ws hl hle w1 hR s1=>?_⟩
  left
  refine ⟨⟨_,SqL.of hle⟩,λgl hgl=>?_⟩
  have hlw:out.length=ws.length:=aX w1
  have hws:ws.length<=6:=by rw [hR.length];exact g1.heads
  have h100:∀r∈rs,r.2.length<=100:=λr hr=>aF (Zr g1 r hr) ⋯
  have BE:=BD.same s1
  have glb:gl≠b:=BE.ne hgl
  refine qc (K:=K) (a:=l) (xs:=out) (acc:=gl) (λi σ H2=>∃(x:Option V) (zs:List V),σ=[x,some (.ref p)]/\H2 gl=some (.lst zs)/\zs.length=i/\dJ (λv (w:List Int)=>∃a,v=V.ref a/\H2 a=some (.lst (w.map V.int))/\He a=none/\a≠gl) zs ((ws.take i).map (jm rs))/\Ext gl He H2) ?_ ?_ ?_ ?_
  ·exact ⟨none,[],rfl,j8,rfl,.nil,Ext.put⟩
  ·rintro i σ H2 hi ⟨x,zs,rfl,h2,hz,r2,e2⟩
   exact SqL.of (e2 _ _ hle (j4 hle hgl))
  ·rintro i v σ H2 hv ⟨x,zs,rfl,h2,hz,r2,e2⟩
   obtain ⟨wy,hwy,a,rfl,ha1⟩:=Paired.get w1 hv
   have hi:=(List.getElem?_eq_some_iff.mp hwy).1
   obtain ⟨x',hx',ewy⟩:=hR.mem (au hwy)
   have ha2:=e2 _ _ ha1 (j4 ha1 hgl)
   have hr1:=s1 _ _ pD
   have hl':=ui Ld x' (xA hx')
   have:=xA hx'
   left
   refine ⟨p,a,xs,rs,wy,rfl,e2 _ _ hr1 (j4 hr1 hgl),(rD.keep (jy.same s1)).keep (jy.new e2 hgl),h100,ha2,by rw [ewy];exact xZ Ld x' (xA hx'),by rw [ewy];omega,λt H3 ht ht3 s3=>?_⟩
   have ta:t≠gl:=(j4 h2 ht).symm
   refine ⟨zs,s3 _ _ h2,jh (),some (.ref a),zs++[.ref t],rfl,j8,by rw [az,hz];rfl,?_,λc o hc n=>by rw [ja n];exact s3 _ _ (e2 c o hc n)⟩
   rw [qE (jm rs) ws i wy hwy]
   exact dh (Paired.mapP r2 λv wy ⟨a,e,ha,h0,na⟩=>⟨a,e,by rw [ja na];exact s3 _ _ ha,h0,na⟩) ⟨t,rfl,by rw [ja ta];exact ht3,e2.free ht ta,ta⟩
  rintro σ H2 ⟨x,zs,rfl,h2,hz,r2,e2⟩
  rw [hlw,br] at r2
  have gi2:yx H2 zs (ws.map (jm rs)):=Paired.mapP r2 λv wy ⟨a,e,ha,h0,na⟩=>⟨a,e,ha⟩
  have zb:V.ref b∉zs:=λz=>by
   obtain ⟨_,a,e,_,h0,_⟩:=pm r2 _ z
   cases e
   exact absurd rfl (BE.ne h0)
  have s2:jq Hd H2:=λc o hc=>e2 _ _ (s1 _ _ hc) (j4 (s1 _ _ hc) hgl)
  have gl0:Hd gl=none:=s1.free hgl
  left
  refine ⟨sd,_,rfl,vq.k (k:=.inr "grounds") (s2 _ _ dD) (jh (aF (zW _ _) (by show 0+3<=1000;decide))),?_⟩
  rw [put4]
  have nF:∀{a:Addr} {o:HO},H2 a=some o->(∀kvs,o≠.dK kvs)->(upd H2 sd (.dK [((.inr "reaches",.ref p):Key×V),(.inr "rows",.ref q),(.inr "single",.ref sg),(.inr "grounds",.ref gl)])) a=some o:=λh n=>by rw [ja (jp h (s2 _ _ dD) (n _))];exact h
  have dF:(upd H2 sd (.dK [((.inr "reaches",.ref p):Key×V),(.inr "rows",.ref q),(.inr "single",.ref sg),(.inr "grounds",.ref gl)])) sd=some (.dK [((.inr "reaches",.ref p):Key×V),(.inr "rows",.ref q),(.inr "single",.ref sg),(.inr "grounds",.ref gl)]):=j8
  have pF:=nF (s2 _ _ pD) (by walk_at "w")
  have qF:=nF (s2 _ _ qD) (by walk_at "w")
  have rF:qe (upd H2 sd (.dK [((.inr "reaches",.ref p):Key×V),(.inr "rows",.ref q),(.inr "single",.ref sg),(.inr "grounds",.ref gl)])) xs rs:=rD.keep λ_ _ h=>nF (s2 _ _ h) (by walk_at "w")
  have r3F:jQ (upd H2 sd (.dK [((.inr "reaches",.ref p):Key×V),(.inr "rows",.ref q),(.inr "single",.ref sg),(.inr "grounds",.ref gl)])) ys ts:=r3D.imp λ_ _ h=>nF (s2 _ _ h) (by walk_at "w")
  have gF:=nF h2 (by walk_at "w")
  have giF:yx (upd H2 sd (.dK [((.inr "reaches",.ref p):Key×V),(.inr "rows",.ref q),(.inr "single",.ref sg),(.inr "grounds",.ref gl)])) zs (ws.map (jm rs)):=Paired.mapP gi2 λv wy ⟨a,e,ha⟩=>⟨a,e,nF ha (by walk_at "w")⟩
  have sgF:(upd H2 sd (.dK [((.inr "reaches",.ref p):Key×V),(.inr "rows",.ref q),(.inr "single",.ref sg),(.inr "grounds",.ref gl)])) sg=some (.dK []):=by rw [ja sgsd];exact s2 _ _ sgD
  have BF:jC L (upd H2 sd (.dK [((.inr "reaches",.ref p):Key×V),(.inr "rows",.ref q),(.inr "single",.ref sg),(.inr "grounds",.ref gl)])) b:=(BD.same s2).put sdb (B1.neL hsd)
  have XF:Ext b H (upd H2 sd (.dK [((.inr "reaches",.ref p):Key×V),(.inr "rows",.ref q),(.inr "single",.ref sg),(.inr "grounds",.ref gl)])):=λc o h n=>by rw [ja (j4 h sd0)];exact s2 _ _ (XD c o h n)
  clear nF gi2 s2 h2 r2 e2 BE hgl s1 w1 hle hl pD rD qD r3D sgD BD XD dD h100
  generalize (upd H2 sd (.dK [((.inr "reaches",.ref p):Key×V),(.inr "rows",.ref q),(.inr "single",.ref sg),(.inr "grounds",.ref gl)]))=Hf at *
  have hzw:zs.length<=6:=()
  refine ⟨λσ H5=>∃c,σ=[some (.ref b),some (.ref p),some (.ref sd),none,none]/\ScB L b H H5 sd c/\c.sk=[]/\∀x∈c.lds,x.2=[],?_,?_⟩
  ·left
   refine ⟨sd,.ref gl,rfl,by rw [<- Qd p q sg gl];exact qr.k (k:=.inr "grounds") dF,?_⟩
   left
   refine ⟨⟨_,SqL.of gF⟩,λle hle=>?_⟩
   have leb:le≠b:=BF.ne hle
   refine qc (K:=K) (a:=gl) (xs:=zs) (acc:=le) (λi σ He=>∃(x:Option V) (lds:List (Addr×List (Int×Int))),σ=[x]/\He le=some (.lst (lds.map λx=>V.ref x.1))/\lds.length=i/\(∀x∈lds,He x.1=some (.dK [])/\x.2=[]/\Hf x.1=none/\x.1≠le)/\(lds.map (·.1)).Nodup/\Ext le Hf He) ?_ ?_ ?_ ?_
   ·exact ⟨none,[],rfl,j8,rfl,(λx z=>by cases z),iQ,Ext.put⟩
   ·rintro i σ He hi ⟨x,lds,rfl,he,hl,hd,nn,e⟩
    exact SqL.of (e _ _ gF (j4 gF hle))
   ·rintro i v σ He hv ⟨x,lds,rfl,he,hl,hd,nn,e⟩
    have hi:=(List.getElem?_eq_some_iff.mp hv).1
    left
    intro d hd0
    have dl:d≠le:=(j4 he hd0).symm
    refine ⟨_,(by rw [ja (cE dl)];exact he),by rw [af];exact jh (),some v,lds++[(d,[])],rfl,(by rw [j8,aC];rfl),(by rw [az,hl];rfl),λy hy=>?_,?_,λc o hc n=>?_⟩
    ·rcases List.mem_append.mp hy with z | z
     ·obtain ⟨h1,h2,h3,h4⟩:=hd y z
      exact ⟨by rw [ja h4,ja (j4 h1 hd0)];exact h1,h2,h3,h4⟩
     ·obtain rfl:y=(d,[]):=by simpa using z
      exact ⟨by rw [ja dl];exact j8,rfl,e.free hd0 dl,dl⟩
    ·rw [aC]
     refine uk nn λz=>?_
     obtain ⟨y,hy,ey⟩:=List.mem_map.mp z
     have:=(hd y hy).1
     rw [ey,hd0] at this
     cases this
    ·rw [ja n,ja (j4 (e c o hc n) hd0)]
     exact e c o hc n
   ·rintro σ He ⟨x,lds,rfl,he,hl,hd,nn,e⟩
    have sE:jq Hf He:=λc o h=>e c o h (j4 h hle)
    left
    refine ⟨sd,_,rfl,vq.k (k:=.inr "leaps") (sE _ _ dF) (by show 4<sizeLine;decide),?_⟩
    rw [put5]
    have nG:∀{a:Addr} {o:HO},He a=some o->(∀kvs,o≠.dK kvs)->(upd He sd (.dK (scK p q sg gl le))) a=some o:=λh n=>by rw [ja (jp h (sE _ _ dF) (n _))];exact h
    have lG:∀x∈lds,(upd He sd (.dK (scK p q sg gl le))) x.1=some (.dK (x.2.map kvI)):=λx hx=>by
     obtain ⟨h1,h2,h3,h4⟩:=hd x hx
     rw [ja (j4 dF h3).symm,h2]
     exact h1
    have sgG:(upd He sd (.dK (scK p q sg gl le))) sg=some (.dK []):=by rw [ja sgsd];exact sE _ _ sgF
    refine ⟨⟨p,q,sg,gl,le,xs,ys,zs,rs,ts,ws,[],lds⟩,rfl,⟨⟨j8,nG (sE _ _ pF) (by walk_at "w"),rF.keep λ_ _ h=>nG (sE _ _ h) (by walk_at "w"),nG (sE _ _ qF) (by walk_at "w"),r3F.imp λ_ _ h=>nG (sE _ _ h) (by walk_at "w"),nG (sE _ _ gF) (by walk_at "w"),Paired.mapP giF λv wy ⟨a,e,ha⟩=>⟨a,e,nG (sE _ _ ha) (by walk_at "w")⟩,nG he (by walk_at "w"),.inl sgG,(λz hz=>by cases hz),λx hx=>.inl (lG x hx)⟩,
     ⟨g1,l1,l8,ht12.1,ht12.2,htg,hR,hl.trans (hz.trans hlw),nn,λx hx=>(j4 sgF (hd x hx).2.2.1).symm,pb,qb,glb,leb,zb,iQ,(λz hz=>by cases hz),aO _,(λx hx=>by rw [(hd x hx).2.1];exact iQ),(λx hx=>by rw [(hd x hx).2.1];intro z hz;cases hz),(λx hx=>by rw [(hd x hx).2.1];exact aO _)⟩,sgG,lG,(BF.same sE).put sdb (B1.neL hsd),λc o h n=>?_,sg0,λx hx=>?_⟩,rfl,λx hx=>(hd x hx).2.1⟩
    ·rw [ja (j4 h sd0)]
     exact sE _ _ (XF c o h n)
    ·exact XF.free (hd x hx).2.2.1 (BF.ne (hd x hx).2.2.1)
  rintro σ H5 ⟨c,rfl,S5,k5,l5⟩
  clear dF pF qF rF r3F gF giF sgF BF XF zb hlw hws hz hzw
  refine ⟨λσ H6=>∃(x:Option V) (c:ScN),σ=[some (.ref b),some (.ref p),some (.ref sd),x,none]/\ScB L b H H6 sd c/\c.sk.length<=10/\∀x∈c.lds,x.2=[],?_,?_⟩
  ·left
   refine ⟨by show 3<=sizeLine;decide,λl6 H6 hl6 hl66 s6=>?_⟩
   have S6:=S5.same s6
   have l6b:l6≠b:=S5.B.ne hl6
   left
   refine ⟨L,b,_,rfl,S6.B,⟨⋯,⋯⟩,λv7 H7 p7 q7 B7 X7=>?_⟩
   have S7:=S6.take B7 X7
   obtain ⟨n,hn,n0,n1⟩:=VG p7 q7
   refine ⟨_,_,_,_,rfl,rfl,SqL.of (X7 _ _ hl66 l6b),hn,?_⟩
   left
   refine ⟨L,b,_,rfl,S7.B,⟨n0,()⟩,λv8 H8 p8 q8 B8 X8=>?_⟩
   have S8:=S7.take B8 X8
   left
   refine ⟨(),(),?_⟩
   refine zZ (λi σ H2=>∃(x:Option V) (c:ScN),σ=[some (.ref b),some (.ref p),some (.ref sd),x,none]/\ScB L b H H2 sd c/\c.sk.length<=i/\∀x∈c.lds,x.2=[]) ?_ ?_ ?_
   ·exact ⟨none,c,rfl,S8,by rw [k5];exact av _,l5⟩
   ·rintro i σ H2 hi ⟨x,c,rfl,S,hk,hl⟩
    left
    refine ⟨L,b,rfl,S.B,λt H9 r B9 X9 ht hg=>?_⟩
    have S9:=S.take B9 X9
    left
    refine ⟨sd,.ref c.sg,rfl,by rw [<- xF c.p c.q c.sg c.gl c.ll];exact qr.k (k:=.inr "single") S9.S.sd,?_⟩
    left
    refine ⟨L,b,rfl,S9.B,λy H10 y0 y1 B10 X10=>?_⟩
    have S10:=S9.take B10 X10
    refine ⟨c.sg,_,rfl,vq.k (k:=.inl y) S10.r1 (by rw [af];exact jh (by have:=S10.O.k3;omega)),?_⟩
    exact ⟨_,{ c with sk:=qO c.sk y t },rfl,S10.single y0 y1 (X10 _ _ ht (S9.B.ne_tup ht)) hg (),aF (xY _ _ _) (),hl⟩
   ·rintro σ H2 ⟨x,c,rfl,S,hk,hl⟩
    exact ⟨x,c,rfl,S,(),hl⟩
  clear S5 k5 l5
  rintro σ H6 ⟨x,c,rfl,S6,sk6,l6⟩
  left
  refine ⟨by show 3<=sizeLine;decide,λl7 H7 hl7 hl77 s7=>?_⟩
  have S7:=S6.same s7
  have l7b:l7≠b:=S6.B.ne hl7
  left
  refine ⟨L,b,_,rfl,S7.B,⟨⋯,⋯⟩,λv8 H8 p8 q8 B8 X8=>?_⟩
  have S8:=S7.take B8 X8
  obtain ⟨n,hn,n0,n1⟩:=Ui p8 q8
  refine ⟨_,_,_,_,rfl,rfl,SqL.of (X8 _ _ hl77 l7b),hn,?_⟩
  left
  refine ⟨L,b,_,rfl,S8.B,⟨n0,()⟩,λv9 H9 p9 q9 B9 X9=>?_⟩
  have S9:=S8.take B9 X9
  left
  refine ⟨(),(),?_⟩
  refine zZ (λi σ H2=>∃(x y:Option V) (c:ScN),σ=[some (.ref b),some (.ref p),some (.ref sd),x,y]/\ScB L b H H2 sd c/\c.sk.length<=10/\∀x∈c.lds,x.2.length<=i) ?_ ?_ ?_
  ·exact ⟨x,none,c,rfl,S9,sk6,λx hx=>by rw [l6 x hx];exact av _⟩
  ·rintro i σ H2 hi ⟨x,y',c,rfl,S,hk10,hl⟩
   have hw1:1<=c.ws.length:=by
    rw [S.O.ro.length]
    exact gy (qp S.O.gr.ok) S.O.l1
   have hzl:c.zs.length=c.ws.length:=(aX S.S.gi).trans (af _)
   have hw6:c.ws.length<=6:=by rw [S.O.ro.length];exact S.O.gr.heads
   left
   refine ⟨sd,.ref c.gl,rfl,by rw [<- xh c.p c.q c.sg c.gl c.ll];exact qr.k (k:=.inr "grounds") S.S.sd,?_⟩
   left
   refine ⟨c.gl,_,rfl,.inl (SqL.of S.S.gl),?_⟩
   left
   refine ⟨L,b,_,rfl,S.B,⟨(),()⟩,λln H10 ln0 ln1 B10 X10=>?_⟩
   have S10:=S.take B10 X10
   left
   refine ⟨by show 2<=sizeLine;decide,λl11 H11 hl11 hl11' s11=>?_⟩
   have S11:=S10.same s11
   have l11b:l11≠b:=S10.B.ne hl11
   left
   refine ⟨L,b,_,rfl,S11.B,⟨⋯,⋯⟩,λv12 H12 p12 q12 B12 X12=>?_⟩
   have S12:=S11.take B12 X12
   obtain ⟨n,hn,n0,n1⟩:=Gs p12 q12
   refine ⟨_,_,_,_,rfl,rfl,SqL.of (X12 _ _ hl11' l11b),hn,?_⟩
   left
   refine ⟨L,b,_,rfl,S12.B,⟨n0,()⟩,λv13 H13 p13 q13 B13 X13=>?_⟩
   have S13:=S12.take B13 X13
   left
   have hll:ln.toNat<c.lds.length:=by rw [S.O.ldl];omega
   obtain ⟨⟨a,ns⟩,ha⟩:∃z,c.lds[ln.toNat]? = some z:=⟨_,ag hll⟩
   refine ⟨sd,.ref c.ll,rfl,by rw [<- za c.p c.q c.sg c.gl c.ll];exact qr.k (k:=.inr "leaps") S13.S.sd,?_⟩
   left
   refine ⟨_,_,_,_,rfl,rfl,SqL.of S13.S.ll,qG ln0 (v:=V.ref a) (by rw [aq,ha];rfl),?_⟩
   left
   refine ⟨L,b,rfl,S13.B,λy H14 y0 y1 B14 X14=>?_⟩
   have S14:=S13.take B14 X14
   have hns:=hl _ (au ha)
   refine ⟨a,_,rfl,vq.k (k:=.inl y) (S14.r2 _ (au ha)) (by rw [af];exact jh (by have:ns.length<=i:=hns;omega)),?_⟩
   have hns:ns.length<=i:=hns
   refine ⟨_,_,{ c with lds:=c.lds.set ln.toNat (a,qO ns y (1+v13)) },rfl,S14.leap ha y0 y1 () () (),hk10,λx hx=>?_⟩
   rcases uu S.O.nd ha hx with z | ⟨z,_⟩
   ·subst z
    exact aF (xY _ _ _) ()
   ·exact eL (hl x z)
  ·rintro σ H2 ⟨x,y',c,rfl,S,hk10,hl⟩
   left
   exact k sd H2 c S.B S.X S.S S.O hk10 (λx hx=>aF (hl x hx) ())
theorem IceNew.made {C Pt p dx:Addr}{H H':Hp}{g:IceG}{o o':HO}(hp:H p=none) (hd:H dx=none) (I:IceNew C Pt (upd (upd H dx o) p o') H' p g):IceNew C Pt H H' p g:=by
 have s:jq H (upd (upd H dx o) p o'):=λc u h=>by rw [ja (j4 h hp),ja (j4 h hd)];exact h
 exact ⟨I.at_,λc u h n m=>I.keep c u (s c u h) n m,s.free I.va,s.free I.cy,s.free I.sl,s.free I.ye,s.free I.le,λa z=>s.free (I.zs a z),I.kvs,λx hx=>⟨s.free (I.lds x hx).1,(I.lds x hx).2⟩,I.ll,I.nd,I.ny,I.sl2⟩
structure IceFr (H:Hp) (p:Addr) (g:IceG):Prop where
 p:H p=none
 va:H g.va=none
 cy:H g.cy=none
 sl:H g.sl=none
 ye:H g.ye=none
 le:H g.le=none
 zs:∀a,V.ref a∈g.zs->H a=none
 lds:∀x∈g.lds,H x.1=none
theorem IceAt.stay {C p:Addr}{H H2 H3:Hp}{g:IceG}(I:IceAt C H2 p g) (F:IceFr H p g) (f:∀a o,H2 a=some o->H a=none->H3 a=some o) (t:jy H2 H3):IceAt C H3 p g :=
 ⟨f _ _ I.ob F.p,f _ _ I.va F.va,I.rs.keep t,f _ _ I.cy F.cy,I.rows.imp λ_ _ q=>t _ _ q,f _ _ I.sl F.sl,pmM I.slopes λv hv w ⟨a,ea,q⟩=>⟨a,ea,f _ _ q (F.zs a (ea ▸ hv))⟩,f _ _ I.ye F.ye,f _ _ I.le F.le,λx hx=>f _ _ (I.lds x hx) (F.lds x hx)⟩
theorem Fr3.ext {N M:Addr->Prop}{H H2 H3:Hp}{a:Addr}(f:Fr3 N M H H2) (e:Ext a H2 H3) (ha:H a=none):Fr3 N M H H3:=λc o h n=>by
 have ca:c≠a:=j4 h ha
 rcases f c o h n with q | ⟨m,ob,kvs,eo,q⟩
 ·exact .inl (e _ _ q ca)
 ·exact .inr ⟨m,ob,kvs,eo,e _ _ q ca⟩
theorem Fr3.same {N M:Addr->Prop}{H H2 H3:Hp}(f:Fr3 N M H H2) (e:jq H2 H3):Fr3 N M H H3:=λc o h n=>by
 rcases f c o h n with q | ⟨m,ob,kvs,eo,q⟩
 ·exact .inl (e _ _ q)
 ·exact .inr ⟨m,ob,kvs,eo,e _ _ q⟩
theorem Fr3.frz {N M:Addr->Prop}{H H2:Hp}{a:Addr}{ob:Obj}{kvs:List (Key×V)}(f:Fr3 N M H H2) (h:H2 a=some (.dK kvs)) (m:M a):Fr3 N M H (upd H2 a (.frz ob (.dK kvs))):=λc o hc n=>by
 by_cases e:c=a
 ·subst e
  rcases f c o hc n with q | ⟨_,ob',kvs',eo,q⟩
  ·rw [h] at q
   cases q
   exact .inr ⟨m,ob,kvs,rfl,j8⟩
  ·rw [h] at q
   cases q
 ·rw [ja e]
  exact f c o hc n
theorem Yb {H:Hp}{a:Addr}{ob:Obj}{kvs:List (Key×V)}(h:H a=some (.dK kvs)):jy H (upd H a (.frz ob (.dK kvs))):=λc xs q=>by rw [ja (jp q h (by walk_at "z"))];exact q
theorem Uc {H:Hp}{a Pt:Addr}{ob:Obj}{kvs:List (Key×V)}(T:qI H Pt) (h:H a=some (.dK kvs)):qI (upd H a (.frz ob (.dK kvs))) Pt:=by
 rcases T with q | ⟨c,q,q'⟩
 ·exact .inl (by rw [ja (jp q h (by walk_at "z"))];exact q)
 ·exact .inr ⟨c,by rw [ja (jp q h (by walk_at "z"))];exact q,by rw [ja (jp q' h (by walk_at "z"))];exact q'⟩
theorem JT {H H':Hp}{a Pt:Addr}{kvs:List (Key×V)}(T:qI H Pt) (h:H a=some (.dK kvs)) (e:Ext a H H'):qI H' Pt:=by
 rcases T with q | ⟨c,q,q'⟩
 ·exact .inl (e _ _ q (jp q h (by walk_at "z")))
 ·exact .inr ⟨c,e _ _ q (jp q h (by walk_at "z")),e _ _ q' (jp q' h (by walk_at "z"))⟩
theorem UG {ns:List (Int×Addr)}{i:Nat}{q:Key×V}(h:(ns.map kvA)[i]? = some q):∃z,ns[i]? = some z/\q=kvA z:=by
 rw [aq] at h
 cases e:ns[i]? with
 | none=>rw [e] at h;cases h
 | some z=>rw [e] at h;cases h;exact ⟨z,rfl,rfl⟩
theorem gL:∀{ns:List (Int×Addr)},(ns.map (·.1)).Nodup->∀{z:Int×Addr},z∈ns->qx (ns.map kvA) (.inl z.1)=some (.ref z.2)
 | [],_,z,h=>by cases h
 | q::r,nd,z,h=>by
  rw [b8] at nd
  obtain ⟨h1,h2⟩:=List.nodup_cons.mp nd
  rw [b8]
  rcases List.mem_cons.mp h with e | e
  ·subst e
   exact zv
  ·have ne:¬q.1=z.1:=λw=>h1 (by rw [w];exact cP e)
   show qx ((.inl q.1,.ref q.2)::r.map kvA) (.inl z.1)=_
   rw [jD (λw=>ne (eM w))]
   exact gL h2 e
theorem Vr {α:Type}{l:List (Int×α)}{y:Int}{a:α}(h:y∉l.map (·.1)):qO l y a=l++[(y,a)]:=by
 unfold qO
 rw [if_neg]
 intro z
 obtain ⟨u,hu,e⟩:=List.any_eq_true.mp z
 exact h (of_decide_eq_true e ▸ cP hu)
theorem Z3 {α:Type}{l:List (Int×α)}(nd:(l.map (·.1)).Nodup) {i:Nat}{z:Int×α}(h:l[i]? = some z):z.1∉(l.take i).map (·.1):=λm=>by
 obtain ⟨hi,e⟩:=List.getElem?_eq_some_iff.mp h
 obtain ⟨u,hu,eu⟩:=List.mem_map.mp m
 obtain ⟨j,hj,ej⟩:=List.mem_iff_getElem.mp hu
 rw [aT] at hj
 rw [List.getElem_take] at ej
 have h1:(l.map (·.1))[j]'(by rw [af];omega)=(l.map (·.1))[i]'(by rw [af];exact hi):=by rw [fX,fX,ej,e,eu]
 exact absurd h1 (List.pairwise_iff_getElem.mp nd j i _ _ ())
theorem Qc {α:Type}{f:α->V}{l:List (Int×α)}(nd:(l.map (·.1)).Nodup) {i:Nat}{z:Int×α}(h:l[i]? = some z):qt ((l.take i).map λz=>((.inl z.1,f z.2):Key×V)) (.inl z.1) (f z.2)=(l.take (i+1)).map λz=>((.inl z.1,f z.2):Key×V):=by
 rw [zm f,Vr (Z3 nd h),bE,h]
 rfl
structure LdN (g0:List (Addr×List (Key×V))) (cl:List (Addr×List (Int×Int))) (i n:Nat) (lds:List (Addr×List (Key×V))):Prop where
 fst:lds.map (·.1)=g0.map (·.1)
 at_:∀j x,lds[j]? = some x->∃y,cl[j]? = some y/\x.2=(if j<i then y.2 else if j=i then y.2.take n else []).map kvI
theorem LdN.len {g0 lds:List (Addr×List (Key×V))}{cl:List (Addr×List (Int×Int))}{i n:Nat}(h:LdN g0 cl i n lds):lds.length=g0.length:=by
 have:=congrArg i8 h.fst
 rwa [af,af] at this
theorem LdN.next {g0 lds:List (Addr×List (Key×V))}{cl:List (Addr×List (Int×Int))}{i n:Nat}{y:Addr×List (Int×Int)}(h:LdN g0 cl i n lds) (hy:cl[i]? = some y) (hn:y.2.length<=n):LdN g0 cl (i+1) 0 lds:=⟨h.fst,λj x hx=>by
 obtain ⟨u,hu,e⟩:=h.at_ j x hx
 refine ⟨u,hu,?_⟩
 rw [e]
 by_cases a:j<i
 ·rw [if_pos a,if_pos ()]
 ·rw [if_neg a]
  by_cases b:j=i
  ·subst b
   rw [hy] at hu
   cases hu
   rw [if_pos rfl,if_pos (),cg hn]
  ·rw [if_neg b,if_neg ()]
   split
   ·rfl
   ·rfl⟩
theorem LdN.put {g0 lds:List (Addr×List (Key×V))}{cl:List (Addr×List (Int×Int))}{i n:Nat}{y:Addr×List (Int×Int)}{z:Int×Int}{a:Addr}{kvs:List (Key×V)}(h:LdN g0 cl i n lds) (hy:cl[i]? = some y) (nd:(y.2.map (·.1)).Nodup) (hz:y.2[n]? = some z) (ha:lds[i]? = some (a,kvs)):LdN g0 cl i (n+1) (xk lds i (qt kvs (.inl z.1) (.int z.2))):=by
 obtain ⟨u,hu,e⟩:=h.at_ i _ ha
 rw [hy] at hu
 cases hu
 rw [if_neg (cw i),if_pos rfl] at e
 have e2:qt kvs (.inl z.1) (.int z.2)=(y.2.take (n+1)).map kvI:=by
  rw [show kvs=(y.2.take n).map kvI from e]
  exact Qc (f:=V.int) nd hz
 refine ⟨?_,λj x hx=>?_⟩
 ·rw [<- h.fst]
  unfold xk
  rw [ao,ha]
  exact Zy ha
 ·unfold xk at hx
  rw [cN] at hx
  by_cases b:i=j
  ·subst b
   rw [if_pos rfl,if_pos (List.getElem?_eq_some_iff.mp ha).1] at hx
   cases hx
   exact ⟨y,hy,by rw [if_neg (cw i),if_pos rfl];exact e2⟩
  ·rw [if_neg b] at hx
   obtain ⟨u,hu,e⟩:=h.at_ j x hx
   refine ⟨u,hu,?_⟩
   rw [e]
   by_cases c:j<i
   ·rw [if_pos c,if_pos c]
   ·rw [if_neg c,if_neg c,if_neg (λq=>b q.symm),if_neg (λq=>b q.symm)]
theorem ScAt.fr {Pt sd:Addr}{H H':Hp}{c:ScN}(S:ScAt H sd c) (T:qI H Pt) (f:Fr3 (λa=>a=Pt) c.D H H'):ScAt H' sd c:=by
 obtain ⟨ps,hP⟩:=T.ne
 have n:∀{a:Addr} {o:HO},H a=some o->(∀ps,o≠.tbl ps)->¬a=Pt:=λh q=>jp h hP (q _)
 have nr:∀{a:Addr} {kvs:List (Key×V)},Rd H a (.dK kvs)->¬a=Pt:=λh=>by
  rcases h with h | ⟨o,h⟩
  ·exact n h (by walk_at "w")
  ·exact n h (by walk_at "w")
 exact S.keep f (λa xs h=>n h (by walk_at "w")) (n S.sd (by walk_at "w")) S.nD (n S.p (by walk_at "w")) (n S.q (by walk_at "w")) (n S.gl (by walk_at "w")) (n S.ll (by walk_at "w")) (λa h=>by
  obtain ⟨w,a',e,q⟩:=pm S.gi _ h
  cases e
  exact n q (by walk_at "w")) (nr S.sg) λx hx=>nr (S.ld x hx)
theorem ScAt.inD {H:Hp}{sd a:Addr}{c:ScN}(S:ScAt H sd c) (h:c.D a):∃o,H a=some o:=by
 have r:∃kvs,Rd H a (.dK kvs):=by
  rcases h with h | ⟨x,hx,e⟩
  ·exact ⟨_,h ▸ S.sg⟩
  ·exact ⟨_,e ▸ S.ld x hx⟩
 obtain ⟨_,r | ⟨o,r⟩⟩:=r
 ·exact ⟨_,r⟩
 ·exact ⟨_,r⟩
theorem Vk {a:Addr}{kvs:List (Key×V)}{o:Obj}{H H4:Hp}(f:Fz a kvs o H H4):jy H H4:=λc xs q=>by
 rcases f.2 with rfl | ⟨h,rfl⟩
 ·exact q
 ·exact Yb h c xs q
theorem Gn {N M:Addr->Prop}{a:Addr}{kvs:List (Key×V)}{o:Obj}{H H2 H4:Hp}(f:Fz a kvs o H2 H4) (r:Fr3 N M H H2) (m:M a):Fr3 N M H H4:=by
 rcases f.2 with rfl | ⟨h,rfl⟩
 ·exact r
 ·exact r.frz h m
theorem Ww {a Pt:Addr}{kvs:List (Key×V)}{o:Obj}{H H4:Hp}(f:Fz a kvs o H H4) (T:qI H Pt):qI H4 Pt:=by
 rcases f.2 with rfl | ⟨h,rfl⟩
 ·exact T
 ·exact Uc T h
structure MdI (C Pt p:Addr) (c:ScN) (H H2:Hp) (g:IceG):Prop where
 I:IceAt C H2 p g
 F:IceFr H p g
 R:Fr3 (λa=>a=Pt) c.D H H2
 T:qI H2 Pt
theorem MdI.frz {C Pt p sd a:Addr}{c:ScN}{H H2 H4:Hp}{g:IceG}{kvs:List (Key×V)}{o:Obj}(M:MdI C Pt p c H H2 g) (S:ScAt H sd c) (h:c.D a) (f:Fz a kvs o H2 H4):MdI C Pt p c H H4 g:=by
 obtain ⟨_,ha⟩:=S.inD h
 exact ⟨M.I.stay M.F (λb u hb n=>f.at hb (j4 ha n).symm) (Vk f),M.F,Gn f M.R h,Ww f M.T⟩
theorem MdI.same {C Pt p:Addr}{c:ScN}{H H2 H4:Hp}{g:IceG}(M:MdI C Pt p c H H2 g) (s:jq H2 H4):MdI C Pt p c H H4 g:=⟨M.I.same s,M.F,M.R.same s,M.T.same s⟩
theorem LdN.mem {g0 lds:List (Addr×List (Key×V))}{cl:List (Addr×List (Int×Int))}{i n:Nat}(h:LdN g0 cl i n lds) {x:Addr×List (Key×V)}(hx:x∈lds):∃y∈g0,y.1=x.1:=by
 have:x.1∈g0.map (·.1):=h.fst ▸ cP hx
 obtain ⟨y,hy,e⟩:=List.mem_map.mp this
 exact ⟨y,hy,e⟩
noncomputable def V6 (C Pt:Addr):Sp:=λvs H Q _=>∃(sd b:Addr) (c:ScN),vs=[.ref sd]/\ScAt H sd c/\ScOk b c/\qI H Pt /\
 ∀p H' g,IceAt C H' p g->IceFr H p g->Fr3 (λa=>a=Pt) c.D H H'->qI H' Pt->g.rs=c.rs->g.rows=c.ts->g.slopes=c.ws.map (jm c.rs)->g.kvs=c.sk.map kvA->g.lds.length=c.lds.length->(∀(l:Nat) x,g.lds[l]? = some x->∃y,c.lds[l]? = some y/\x.2=y.2.map kvI)->(∀x∈g.lds,x.1≠g.ye)->(g.lds.map (·.1)).Nodup->Q (.ref p) H'
theorem xm:FnScope ["_law_scene_here","_law_ice","_law_year_here","_law_lane","_law_leaps"] ["_law_scene_here"] (j9 vC):=by walk_at "s"
theorem VT {f C CV CR CN CY CW CS Pt:Addr}{fd:FuncData}(nb:Nb2 mg) (cl_Ice:Cls K C) (c_Ice:MakX P w K mg base 8 C "Ice" ["self","reaches","rows"] (YK C CV CR Pt)) (c_Ice__tell:CalMX P w K mg base 2 C "tell" ["self","year","row"] (X0 C CY CW)) (c_Ice__surge:CalMX P w K mg base 2 C "surge" ["self","lane","year","many"] (JH C CN CY CS)) (F:Fun K "_law_made" "_law_made" vC f fd):FnOk P w K mg base CX0 10 f fd ["_law_scene_here"] (V6 C Pt):=by
 refine F.ok xm (λvs H Q E h=>?_) (λcdv A outer s H vs Q E hr h=>?_)
 ·obtain ⟨sd,b,c,rfl,_⟩:=h
  rfl
 ·obtain ⟨sd,b,c,rfl,S,O,T,k⟩:=h
  refine ⟨_,(j7 (ju 1 xm.nd (U7 c_Ice (hr.mono ⋯) Xg rfl (j2 (jL (qa K) rfl nb.b_list bz (j2 (jA (jJ hr) (pv 0) jc (λ_ _=>rfl)) j5)) (j2 (jL (qa K) rfl nb.b_list bz (j2 (jA (jJ hr) (pv 0) jc (λ_ _=>rfl)) j5)) j5))))
   (j7 (xI bG rfl (J9 (jA (jJ hr) (pv 0) jc (λ_ _=>rfl))) (ji (i:=2) xm.nd rfl (bb rfl)) (jb (qi (yG (pv 1) cl_Ice c_Ice__tell (hr.mono ⋯) Xg (j2 (pv 2) (j2 (jA (jJ hr) (jA (jJ hr) (pv 0) jc (λ_ _=>rfl)) (pv 2) (λ_ _=>rfl)) j5))))))
   (j7 (xI bG rfl (Jb K rfl nb.b_enumerate (j2 (jA (jJ hr) (pv 0) jc (λ_ _=>rfl)) j5)) (xB (n:=2) K rfl (jE (ji (i:=3) xm.nd rfl (bb rfl)) (jE (ji (i:=4) xm.nd rfl (bb rfl)) qV))) (jb (xI bG rfl (J9 (pv 4)) (ji (i:=2) xm.nd rfl (bb rfl)) (jb (qi (yG (pv 1) cl_Ice c_Ice__surge (hr.mono ⋯) Xg (j2 (pv 3) (j2 (pv 2) (j2 (jA (jJ hr) (pv 4) (pv 2) (λ_ _=>rfl)) j5)))))))))
   (jb (jj (pv 1)))))),?_⟩
  left
  refine ⟨sd,.ref c.p,rfl,by rw [<- XH c.p c.q c.sg c.gl c.ll];exact qr.k (k:=.inr "reaches") S.sd,?_⟩
  refine ⟨_,_,rfl,.inl (SqL.of S.p),λl1 H1 hl1 hl11 s1=>?_⟩
  have S1:=S.same s1
  left
  refine ⟨sd,.ref c.q,rfl,by rw [<- ZB c.p c.q c.sg c.gl c.ll];exact qr.k (k:=.inr "rows") S1.sd,?_⟩
  refine ⟨_,_,rfl,.inl (SqL.of S1.q),λl2 H2 hl2 hl22 s2=>?_⟩
  have S2:=S1.same s2
  have s12:=s1.trans s2
  left
  intro p dx hp hd hdp
  have s3:jq H2 (upd (upd H2 dx (.own p)) p (.ins C dx [])):=λc u h=>by rw [ja (j4 h hp),ja (j4 h hd)];exact h
  have S3:=S2.same s3
  have egr:gr c.ts=true:=by
   have:=O.t1
   have:=O.t2
   unfold gr
   rw [decide_eq_true (),O.tg]
   rfl
  have eg:=O.gr.good O.l1 O.l8
  refine ⟨p,dx,l1,l2,c.xs,c.ys,c.rs,c.ts,rfl,j8,s3 _ _ (s2 _ _ hl11),S3.rv,s3 _ _ hl22,S3.r3,λr hr=>aF (Zr O.gr r hr) ⋯,aF O.l8 ⋯,aF O.t2 ⋯,(T.same s12).same s3,λH4 g _ _ I e1 e2 e3 e4 T4=>?_,(λH' z _ _=>by rw [eg] at z;cases z),(λH' _ z _ _=>by rw [egr] at z;cases z)⟩
  have I:=I.made hp hd
  obtain ⟨ws,hR,esl⟩:=I.sl2
  rw [e1] at hR esl
  obtain rfl:=hR.unique O.ro
  have F4:IceFr H p g:=⟨s12.free hp,s12.free I.va,s12.free I.cy,s12.free I.sl,s12.free I.ye,s12.free I.le,λa z=>s12.free (I.zs a z),λx hx=>s12.free (I.lds x hx).1⟩
  have M4:MdI C Pt p c H H4 g:=⟨I.at_,F4,λa o h n=>.inl (I.keep a o (s12 _ _ h) (j4 h F4.p) n),T4⟩
  have ll4:g.lds.length=c.lds.length:=by rw [I.ll,esl,af,O.ldl]
  have nd4:=I.nd
  have ny4:=I.ny
  have kv4:=I.kvs
  have ld4:∀x∈g.lds,x.2=[]:=λx hx=>(I.lds x hx).2
  clear I S3 s3 S2 hl22 hl11 S1 T4
  refine ⟨rfl,?_⟩
  have S4:=S.fr T M4.R
  left
  refine ⟨sd,.ref c.sg,rfl,by rw [<- xF c.p c.q c.sg c.gl c.ll];exact qr.k (k:=.inr "single") S4.sd,?_⟩
  have hsgD:c.D c.sg:=.inl rfl
  refine gm (kvs:=c.sk.map kvA) S4.sg (λo i σ H5=>∃x:Option V,σ=[some (.ref sd),some (.ref p),x,none,none]/\H5 c.sg=some (.frz o (.dK (c.sk.map kvA)))/\MdI C Pt p c H H5 { g with kvs:=(c.sk.take i).map kvA }) ?_ ?_ ?_ ?_
  ·intro o H5 f5
   refine ⟨none,rfl,f5.1,?_⟩
   have:=M4.frz S hsgD f5
   have e:g={ g with kvs:=(c.sk.take 0).map kvA }:=by
    show g={ g with kvs:=[] }
    rw [<- kv4]
   rw [<- e]
   exact this
  ·rintro o i σ H5 hi ⟨x,rfl,h5,M5⟩
   exact h5
  ·rintro o i u σ H5 hq ⟨x,rfl,h5,M5⟩
   obtain ⟨z,hz,rfl⟩:=UG hq
   have hm:=au hz
   have hi:i<c.sk.length:=(List.getElem?_eq_some_iff.mp hz).1
   have h10:=O.k3
   have S5:=S.fr T M5.R
   obtain ⟨r,hr3,hgr⟩:=S5.sk z hm
   obtain ⟨y0,y1⟩:=O.k2 z hm
   show uX 2 (V.int z.1) _ _ _
   left
   refine ⟨p,g.dx,_,rfl,M5.I.ob,xu ∅,?_⟩
   left
   refine ⟨sd,.ref c.sg,rfl,by rw [<- xF c.p c.q c.sg c.gl c.ll];exact qr.k (k:=.inr "single") S5.sd,?_⟩
   left
   refine ⟨c.sg,.ref z.2,rfl,(by rw [<- gL O.k1 hm];exact .inl ⟨_,.inl z.1,.inr ⟨o,h5⟩,rfl,rfl⟩),?_⟩
   refine ⟨p,z.2,_,z.1,r,rfl,M5.I,ny4,hr3,(by rw [af,aT];omega),λH6 _ _ _ X6 I6=>?_,λhb=>absurd hb (),λ_ _ hb=>by rw [hgr] at hb;cases hb⟩
   have e:qt ((c.sk.take i).map kvA) (.inl z.1) (.ref z.2)=(c.sk.take (i+1)).map kvA:=Qc (f:=V.ref) O.k1 hz
   obtain ⟨_,hsg0⟩:=S.inD hsgD
   refine ⟨_,rfl,X6 _ _ h5 (j4 hsg0 F4.ye),?_⟩
   rw [<- e]
   exact ⟨I6,⟨F4.p,F4.va,F4.cy,F4.sl,F4.ye,F4.le,F4.zs,F4.lds⟩,M5.R.ext X6 F4.ye,JT M5.T M5.I.ye X6⟩
  ·rintro o σ H5 ⟨x,rfl,h5,M5⟩
   rw [af,br] at M5
   have S5:=S.fr T M5.R
   left
   refine ⟨sd,.ref c.ll,rfl,by rw [<- za c.p c.q c.sg c.gl c.ll];exact qr.k (k:=.inr "leaps") S5.sd,?_⟩
   left
   refine ⟨⟨_,SqL.of S5.ll⟩,?_⟩
   refine Q0 (K:=K) (a:=c.ll) (xs:=c.lds.map λx=>V.ref x.1) (λi σ H6=>∃(x y z:Option V) (lds:List (Addr×List (Key×V))),σ=[some (.ref sd),some (.ref p),x,y,z]/\MdI C Pt p c H H6 { g with kvs:=c.sk.map kvA,lds:=lds }/\LdN g.lds c.lds i 0 lds) ?_ ?_ ?_ ?_
   ·refine ⟨x,none,none,g.lds,rfl,M5,rfl,λj x hx=>?_⟩
    have hj:=(List.getElem?_eq_some_iff.mp hx).1
    obtain ⟨y,hy⟩:∃y,c.lds[j]? = some y:=⟨_,ag ()⟩
    refine ⟨y,hy,?_⟩
    rw [ld4 x (au hx),if_neg (pO _)]
    split <;> rfl
   ·rintro i σ H6 hi ⟨x,y,z,lds,rfl,M6,L6⟩
    exact SqL.of (S.fr T M6.R).ll
   ·rintro i v σ H6 t hv ⟨x,y,z,lds,rfl,M6,L6⟩ ht
    rw [aq] at hv
    obtain ⟨⟨a,ns⟩,hy,ev⟩:=Option.map_eq_some_iff.mp hv
    subst ev
    have M7:=M6.same (jq.new (o:=.tup [.int i,.ref a]) ht)
    left
    refine ⟨t,_,rfl,SqT.of j8,rfl,?_⟩
    refine ⟨_,_,rfl,_,_,rfl,rfl,?_⟩
    left
    clear M6
    generalize upd H6 t (.tup [.int i,.ref a])=H7 at *
    have S7:=S.fr T M7.R
    have hm:=au hy
    have haD:c.D a:=.inr ⟨_,hm,rfl⟩
    obtain ⟨_,ha0⟩:=S.inD haD
    refine gm (kvs:=ns.map kvI) (S7.ld _ hm) (λo n σ H8=>∃(x:Option V) (lds:List (Addr×List (Key×V))),σ=[some (.ref sd),some (.ref p),x,some (.int i),some (.ref a)]/\H8 a=some (.frz o (.dK (ns.map kvI)))/\MdI C Pt p c H H8 { g with kvs:=c.sk.map kvA,lds:=lds }/\LdN g.lds c.lds i n lds) ?_ ?_ ?_ ?_
    ·intro o H8 f8
     exact ⟨x,lds,rfl,f8.1,M7.frz S haD f8,L6⟩
    ·rintro o n σ H8 hn ⟨x,lds,rfl,h8,M8,L8⟩
     exact h8
    ·clear L6 M7 S7
     rintro o n u σ H8 hq ⟨x,lds,rfl,h8,M8,L8⟩
     obtain ⟨z,hz,rfl⟩:=Vn hq
     have hzm:=au hz
     obtain ⟨y0,y1,m0,m1⟩:=O.m2 _ hm z hzm
     have hl8:=L8.len
     have hi8:i<lds.length:=by
      have:=(List.getElem?_eq_some_iff.mp hy).1
      omega
     have hsl:g.slopes.length=lds.length:=by rw [esl,af,hl8,ll4,O.ldl]
     show uX 2 (V.int z.1) _ _ _
     left
     refine ⟨p,g.dx,_,rfl,M8.I.ob,xu ∅,?_⟩
     left
     refine ⟨a,.int z.2,rfl,(by rw [<- uQ (O.m1 _ hm) hzm,<- vg ns z.1 (cP hzm)];exact .inl ⟨_,.inl z.1,.inr ⟨o,h8⟩,rfl,rfl⟩),?_⟩
     refine ⟨p,_,(i:Int),z.1,z.2,rfl,M8.I,hsl.symm,(λx hx=>by obtain ⟨y,hy,e⟩:=L8.mem hx;rw [<- e];exact ny4 y hy),(by show (lds.map (·.1)).Nodup;rw [L8.fst];exact nd4),(λx hx=>?_),λH9 a9 kvs9 _ _ _ _ _ _ ha9 X9 I9=>?_,(λhb=>absurd hb (by show ¬((i:Int)<0\/(g.slopes.length:Int)<=i);omega)),(λ_ _ hb=>absurd hb ()),λ_ _ _ _ hb=>absurd hb ()⟩
     ·obtain ⟨j,hj,ex⟩:=List.mem_iff_getElem.mp hx
      obtain ⟨y,hy,e⟩:=L8.at_ j x (by rw [ag hj,ex])
      have h10:=O.m3 y (au hy)
      rw [e,af]
      split
      ·omega
      ·split
       ·rw [aT];omega
       ·exact aO _
     ·have ha9:lds[i]? = some (a9,kvs9):=ha9
      have L9:=L8.put hy (O.m1 _ hm) hz ha9
      have a90:H a9=none:=M8.F.lds _ (au ha9)
      refine ⟨_,_,rfl,X9 _ _ h8 (j4 ha0 a90),⟨I9,⟨F4.p,F4.va,F4.cy,F4.sl,F4.ye,F4.le,F4.zs,λx hx=>?_⟩,M8.R.ext X9 a90,JT M8.T (M8.I.lds _ (au ha9)) X9⟩,L9⟩
      obtain ⟨y,hy,e⟩:=L9.mem hx
      rw [<- e]
      exact F4.lds y hy
    ·rintro o σ H8 ⟨x,lds,rfl,h8,M8,L8⟩
     exact ⟨x,_,_,lds,rfl,M8,L8.next hy (by rw [af];exact av _)⟩
   ·rintro σ H6 ⟨x,y,z,lds,rfl,M6,L6⟩
    left
    refine k p H6 _ M6.I M6.F M6.R M6.T e1 e2 esl rfl (L6.len.trans ll4) (λl x hx=>?_) (λx hx=>?_) (by show (lds.map (·.1)).Nodup;rw [L6.fst];exact nd4)
    ·obtain ⟨y,hy,e⟩:=L6.at_ l x hx
     refine ⟨y,hy,?_⟩
     rw [e,if_pos (by rw [af];exact (List.getElem?_eq_some_iff.mp hy).1)]
    ·obtain ⟨y,hy,e⟩:=L6.mem hx
     rw [<- e]
     exact ny4 y hy
theorem wf {rs:List Rch}(h:zH rs=true):1<=rs.length/\rs.length<=8/\uI rs=true/\∀ws,qj rs ws->∀w∈ws,(jm rs w).length<=30:=by
 unfold zH at h
 rw [ba,ba,ba] at h
 obtain ⟨h1,h2,_,h4⟩:=h
 have h1:=of_decide_eq_true h1
 refine ⟨(),(),h2,λws hR w hw=>?_⟩
 obtain ⟨x,hx,e⟩:=hR.mem hw
 have:=of_decide_eq_true (List.all_eq_true.mp h4 x hx)
 have g:=kz rs w
 rw [<- e] at this
 omega
theorem wB {rs:List Rch}(G:Grown rs) {ws:List (List Int)}(R:qj rs ws) {w:List Int}(hw:w∈ws):1<=(jm rs w).length:=by
 obtain ⟨x,hx,e⟩:=R.mem hw
 have hl:=xA hx
 have o:=Je G.ok (ag hl)
 unfold okR at o
 rw [ba,ba] at o
 have o:=of_decide_eq_true o.1.2
 have eh:zX rs ((x:Int)).toNat=(rs[x]'hl).2:=by
  unfold zX
  rw [bL,ao,ag hl]
  rfl
 rw [e,zG (qp G.ok) hl]
 unfold jm
 rw [b8,iY,az,eh]
 omega
theorem VS {L b Pt:Addr}{Ha Hb:Hp}(B:jC L Ha b) (e:Ext b Ha Hb) (T:qI Ha Pt):qI Hb Pt:=by
 obtain ⟨ns,a,r,c,d,h1,_⟩:=B
 exact T.ext h1 e
structure Lw (C L b sd p:Addr) (c:ScN) (g:IceG) (H0 H:Hp):Prop where
 B:jC L H b
 S:ScAt H sd c
 I:IceAt C H p g
 O:ScOk b c
 F:IceFr H0 p g
 B0:jC L H0 b
 S0:ScAt H0 sd c
theorem Xq {M:Addr->Prop}{a:Addr}{kvs:List (Key×V)}{o:Obj}{H H4:Hp}(f:Fz a kvs o H H4) (m:M a):FrM M H H4:=λc u hc=>by
 rcases f.2 with rfl | ⟨h,rfl⟩
 ·exact .inl hc
 ·by_cases e:c=a
  ·subst e
   rw [h] at hc
   cases hc
   exact .inr ⟨m,o,kvs,rfl,j8⟩
  ·rw [ja e]
   exact .inl hc
theorem Lw.start {C L b sd p Pt:Addr}{c:ScN}{g:IceG}{H2 H3:Hp}(S2:ScAt H2 sd c) (O:ScOk b c) (B2:jC L H2 b) (T2:qI H2 Pt) (I3:IceAt C H3 p g) (F3:IceFr H2 p g) (R3:Fr3 (λa=>a=Pt) c.D H2 H3):Lw C L b sd p c g H2 H3:=by
 refine ⟨?_,S2.fr T2 R3,I3,O,F3,B2,S2⟩
 obtain ⟨ps,hP⟩:=T2.ne
 obtain ⟨ns,a,r,c,d,h1,h2,h3,h4⟩:=B2
 exact ⟨ns,a,r,c,d,R3.at h1 (jp h1 hP (by walk_at "z")) (by walk_at "w"),h2,R3.at h3 (jp h3 hP (by walk_at "z")) (by walk_at "w"),h4⟩
structure Lk (c:ScN) (g:IceG):Prop where
 rs:g.rs=c.rs
 rows:g.rows=c.ts
 sl:g.slopes=c.ws.map (jm c.rs)
 kv:g.kvs=c.sk.map kvA
 ll:g.lds.length=c.lds.length
 ld:∀(l:Nat) x,g.lds[l]? = some x->∃y,c.lds[l]? = some y/\x.2=y.2.map kvI
 ny:∀x∈g.lds,x.1≠g.ye
 nd:(g.lds.map (·.1)).Nodup
structure LaneF (c:ScN) (g:IceG) (ln:Int) (wy:List Int) (da:Addr) (dn:List (Int×Int)):Prop where
 way:c.ws[ln.toNat]? = some wy
 sl:g.slopes.getD ln.toNat []=jm c.rs wy
 g1:1<=(jm c.rs wy).length
 g30:(jm c.rs wy).length<=30
 cd:c.lds[ln.toNat]? = some (da,dn)
 D:c.D da
 nd:(dn.map (·.1)).Nodup
 b:∀q∈dn,0<=q.1/\q.1<=99/\1<=q.2/\q.2<=9
 l10:dn.length<=40
 at_:Xm g ln dn
 l0:0<=ln
 l1:ln<(g.slopes.length:Int)
theorem Lk.lane {b:Addr}{c:ScN}{g:IceG}(k:Lk c g) (O:ScOk b c) {ln:Int}(h0:0<=ln) (h1:ln<(c.ws.length:Int)):∃wy da dn,LaneF c g ln wy da dn:=by
 have hi:ln.toNat<c.ws.length:=()
 have hwy:=ag hi
 have hgs:g.slopes[ln.toNat]? = some (jm c.rs (c.ws[ln.toNat]'hi)):=by rw [k.sl,aq,hwy];rfl
 have hl:g.slopes.length=c.ws.length:=by rw [k.sl,af]
 obtain ⟨⟨da,dn⟩,hda⟩:∃z,c.lds[ln.toNat]? = some z:=⟨_,ag (by rw [O.ldl];omega)⟩
 have hdm:=au hda
 obtain ⟨⟨da2,dk⟩,hda2⟩:∃z,g.lds[ln.toNat]? = some z:=⟨_,ag (by rw [k.ll,O.ldl];omega)⟩
 obtain ⟨_,q1,q2⟩:=k.ld _ _ hda2
 rw [hda] at q1
 cases q1
 obtain rfl:dk=dn.map kvI:=q2
 have hm:=bW hi
 have h10:dn.length<=40:=O.m3 _ hdm
 exact ⟨_,da,dn,hwy,by rw [ao,hgs];rfl,wB O.gr O.ro hm,(wf (O.gr.good O.l1 O.l8)).2.2.2 c.ws O.ro _ hm,hda,.inr ⟨_,hdm,rfl⟩,O.m1 _ hdm,O.m2 _ hdm,h10,⟨h0,(),⟨da2,hda2⟩,O.m1 _ hdm,(),λq hq=>by have:=O.m2 _ hdm q hq;omega⟩,h0,()⟩
theorem Xm.unique {g:IceG}{l:Int}{ns ms:List (Int×Int)}(h:Xm g l ns) (q:Xm g l ms):ms=ns:=by
 obtain ⟨_,_,⟨a,ha⟩,_⟩:=h
 obtain ⟨_,_,⟨b,hb⟩,_⟩:=q
 rw [ha] at hb
 have e:ns.map kvI=ms.map kvI:=congrArg lB (bg hb)
 have inj:∀{xs ys:List (Int×Int)},xs.map kvI=ys.map kvI->xs=ys:=λ{xs}=>by
  induction xs with
  | nil=>intro ys h;cases ys with
   | nil=>rfl
   | cons _ _=>cases h
  | cons x r ih=>intro ys h;cases ys with
   | nil=>cases h
   | cons y t =>
    rw [b8,b8] at h
    injection h with h1 h2
    rw [ih h2]
    have a:x.1=y.1:=eM (congrArg rE h1)
    have b:x.2=y.2:=V.int.inj (congrArg lB h1)
    rw [show x=y from Prod.ext a b]
 exact (inj e).symm
noncomputable def Vf:Sp:=λvs H Q _=>∃(L b sd:Addr) (c:ScN),vs=[.ref b,.ref sd]/\jC L H b/\ScAt H sd c/\ScOk b c/\1<=c.ws.length/\c.ws.length<=6/\(∀w∈c.ws,1<=(jm c.rs w).length/\(jm c.rs w).length<=30) /\
 ∀(ln n:Int) (w:List Int) (t:Addr) (H':Hp),0<=ln->ln<(c.ws.length:Int)->c.ws[ln.toNat]? = some w->0<=n->n<((jm c.rs w).length:Int)->jC L H' b->Ext b H H'->H t=none->H' t=some (.tup [.int ln,.int n])->Q (.ref t) H'
theorem we:FnScope ["_law_box_here","_law_scene_here","_law_lane"] ["_law_box_here","_law_scene_here"] (j9 vH):=by walk_at "s"
theorem VB {f:Addr}{fd:FuncData}(nb:Nb2 mg) (c_law_take:Cal P w K mg base 2 "_law_take" ["_law_box_here","_law_size"] qU) (F:Fun K "_law_spot" "_law_spot" vH f fd):FnOk P w K mg base CX0 3 f fd ["_law_box_here","_law_scene_here"] Vf:=by
 refine F.ok we (λvs H Q E h=>?_) (λcdv A outer s H vs Q E hr h=>?_)
 ·obtain ⟨L,b,sd,c,rfl,_⟩:=h
  rfl
 ·obtain ⟨L,b,sd,c,rfl,B,S,O,hw1,hw6,hg,k⟩:=h
  have hzl:c.zs.length=c.ws.length:=(aX S.gi).trans (af _)
  refine ⟨_,(j7 (ju 2 we.nd (je c_law_take (hr.mono ⋯) rfl (j2 (pv 0) (j2 (jd (jg K) rfl nb.b_len aR (j2 (jA (jJ hr) (pv 1) jc (λ_ _=>rfl)) j5)) j5))))
   (jb (jj (js (j2 (pv 2) (j2 (je c_law_take (hr.mono ⋯) rfl (j2 (pv 0) (j2 (jd (jg K) rfl nb.b_len aR (j2 (jk (jf K) (jA (jJ hr) (pv 1) jc (λ_ _=>rfl)) (pv 2) (λ_ _=>rfl)) j5)) j5))) j5)))))),?_⟩
  left
  refine ⟨sd,.ref c.gl,rfl,by rw [<- xh c.p c.q c.sg c.gl c.ll];exact qr.k (k:=.inr "grounds") S.sd,?_⟩
  left
  refine ⟨c.gl,_,rfl,.inl (SqL.of S.gl),?_⟩
  left
  refine ⟨L,b,_,rfl,B,⟨(),()⟩,λln H1 ln0 ln1 B1 X1=>?_⟩
  have S1:=S.ext O B X1
  have hi:ln.toNat<c.zs.length:=()
  obtain ⟨gw,hgw,ga,ega,hga⟩:=Paired.get S1.gi (ag hi)
  rw [aq] at hgw
  obtain ⟨wy,hwy,rfl⟩:=Option.map_eq_some_iff.mp hgw
  have hgb:=hg wy (au hwy)
  left
  refine ⟨sd,.ref c.gl,rfl,by rw [<- xh c.p c.q c.sg c.gl c.ll];exact qr.k (k:=.inr "grounds") S1.sd,?_⟩
  left
  refine ⟨_,_,_,_,rfl,rfl,SqL.of S1.gl,qG ln0 (v:=V.ref ga) (by rw [ag hi,ega]),?_⟩
  left
  refine ⟨ga,_,rfl,.inl (SqL.of hga),?_⟩
  rw [af]
  left
  refine ⟨L,b,_,rfl,B1,⟨(),()⟩,λn H2 n0 n1 B2 X2=>?_⟩
  left
  refine ⟨by show 2<=sizeLine;decide,λt H3 ht ht3 s3=>?_⟩
  have tb:t≠b:=B2.ne ht
  exact k ln n wy t H3 ln0 () hwy n0 n1 (B2.same s3) ((X1.trans X2).trans (Ext.of_same s3)) (X1.free (X2.free ht tb) tb) ht3
noncomputable def Zz (C CY CO:Addr):Sp:=λvs H Q E=>∃(p:Addr) (g:IceG) (y:Int),vs=[.ref p,.int y]/\IceAt C H p g/\(∀x∈g.lds,x.1≠g.ye) /\
 (∀H',0<=y->y<=99->(qx g.kvs (.inl y)).isSome=true->Ext g.ye H H'->IceAt C H' p { g with kvs:=zg g.kvs (.inl y) }->Q .non H')/\(y<0\/99<y->E (.ref CY) none H)/\(0<=y->y<=99->qx g.kvs (.inl y)=none->E (.ref CO) none H)
theorem kT:FnScope ["self","year"] ["self","year"] (j9 yc):=by walk_at "s"
theorem kL {f C CY CO:Addr}{fd:FuncData}(nb:Nb2 mg) (T:IceC K C) (e_NotTold:mg "NotTold" = some (.ref CO)) (x_NotTold:cZ K CO [.type "ValueError",.type "Exception",.type "BaseException",.type "object"] "ValueError.__new__" = true) (c_check_told:CalX P w K mg base 1 "check_told" ["year"] (xU CY)) (F:Fun K "plain" "Ice.plain" yc f fd):FnOk P w K mg base (CX1 P w) 2 f fd ["self","year"] (Zz C CY CO):=by
 refine Fun.okX F kT (λvs H Q E h=>?_) (λcdv A outer s H vs Q E hr h=>?_)
 ·obtain ⟨p,g,y,rfl,_⟩:=h
  rfl
 ·obtain ⟨p,g,y,rfl,I,hn,k,ky,ko⟩:=h
  refine ⟨_,(j7 (qi (zi c_check_told (hr.mono ⋯) ze rfl (j2 (pv 1) j5)))
   (j7 (jB (JI (yZ (jJ hr) (pv 1) (xL K (pv 0))) (by with_unfolding_all rfl)) (jb (xc bA x_NotTold e_NotTold rfl xN rfl (j2 jc j5))) jr)
   (jb (Zc (xL K (pv 0)) (pv 1))))),?_⟩
  left
  refine ⟨λh0 h1=>?_,λhb=>ky hb⟩
  left
  refine ⟨p,C,g.dx,_,_,rfl,I.ob,T.cl,T.nY,vA _ _ _ _ _,?_⟩
  left
  refine ⟨g.ye,_,rfl,qr.k (k:=.inl y) I.ye,?_⟩
  cases ev:qx g.kvs (.inl y) with
  | none =>
   left
   exact ⟨by show 1<=sizeLine;decide,ko h0 h1 ev⟩
  | some v =>
   left
   refine ⟨p,C,g.dx,_,_,rfl,I.ob,T.cl,T.nY,vA _ _ _ _ _,?_⟩
   left
   refine ⟨g.ye,_,.inl y,rfl,I.ye,rfl,by rw [ev];rfl,?_⟩
   exact k _ h0 h1 (by rw [ev];rfl) Ext.put (I.years hn Ext.put j8)
noncomputable def YB (C CN CY CO:Addr):Sp:=λvs H Q E=>∃(p:Addr) (g:IceG) (l y:Int),vs=[.ref p,.int l,.int y]/\IceAt C H p g/\g.lds.length=g.slopes.length/\(∀x∈g.lds,x.1≠g.ye)/\(g.lds.map (·.1)).Nodup /\
 (∀H' a kvs,0<=l->l<(g.slopes.length:Int)->0<=y->y<=99->g.lds[l.toNat]? = some (a,kvs)->(qx kvs (.inl y)).isSome=true->Ext a H H'->IceAt C H' p { g with lds:=xk g.lds l.toNat (zg kvs (.inl y)) }->Q .non H') /\
 (l<0\/(g.slopes.length:Int)<=l->E (.ref CN) none H)/\(0<=l->l<(g.slopes.length:Int)->y<0\/99<y->E (.ref CY) none H)/\(∀a kvs,0<=l->l<(g.slopes.length:Int)->0<=y->y<=99->g.lds[l.toNat]? = some (a,kvs)->qx kvs (.inl y)=none->E (.ref CO) none H)
theorem Ja:FnScope ["self","lane","year"] ["self","lane","year"] (j9 yN):=by walk_at "s"
theorem Jr {f C CN CY CO:Addr}{fd:FuncData}(nb:Nb2 mg) (T:IceC K C) (cl_Ice:Cls K C) (e_NotTold:mg "NotTold" = some (.ref CO)) (x_NotTold:cZ K CO [.type "ValueError",.type "Exception",.type "BaseException",.type "object"] "ValueError.__new__" = true) (c_Ice__check_lane:CalMX P w K mg base 1 C "check_lane" ["self","lane"] (zO C CN)) (c_check_told:CalX P w K mg base 1 "check_told" ["year"] (xU CY)) (F:Fun K "calm" "Ice.calm" yN f fd):FnOk P w K mg base (CX1 P w) 2 f fd ["self","lane","year"] (YB C CN CY CO):=by
 refine Fun.okX F Ja (λvs H Q E h=>?_) (λcdv A outer s H vs Q E hr h=>?_)
 ·obtain ⟨p,g,l,y,rfl,_⟩:=h
  rfl
 ·obtain ⟨p,g,l,y,rfl,I,hll,hn,nd,k,kn,ky,ko⟩:=h
  refine ⟨_,(j7 (qi (yG (pv 0) cl_Ice c_Ice__check_lane (hr.mono ⋯) ze (j2 (pv 1) j5)))
   (j7 (qi (zi c_check_told (hr.mono ⋯) ze rfl (j2 (pv 2) j5)))
   (j7 (jB (JI (yZ (jJ hr) (pv 2) (jk (jf K) (xL K (pv 0)) (pv 1) (λ_ _=>rfl))) (by with_unfolding_all rfl)) (jb (xc bA x_NotTold e_NotTold rfl xN rfl (j2 jc j5))) jr)
   (jb (Zc (jk (jf K) (xL K (pv 0)) (pv 1) (λ_ _=>rfl)) (pv 2)))))),?_⟩
  left
  refine ⟨p,g.dx,_,rfl,I.ob,xu ∅,?_⟩
  left
  refine ⟨p,g,l,rfl,I,λl0 l1=>?_,λhb=>kn hb⟩
  left
  refine ⟨λh0 h1=>?_,λhb=>ky l0 l1 hb⟩
  have hi:l.toNat<g.lds.length:=()
  have h0':=I.lds _ (bW hi)
  have hat:atI (g.lds.map λx=>V.ref x.1) l=some (V.ref (g.lds[l.toNat]'hi).1):=qG l0 (by rw [aq,ag hi];rfl)
  left
  refine ⟨p,C,g.dx,_,_,rfl,I.ob,T.cl,T.nL,zp _ _ _ _ _,?_⟩
  left
  refine ⟨_,_,_,_,rfl,rfl,SqL.of I.le,hat,?_⟩
  left
  refine ⟨_,_,rfl,qr.k (k:=.inl y) h0',?_⟩
  cases ev:qx (g.lds[l.toNat]'hi).2 (.inl y) with
  | none =>
   left
   exact ⟨by show 1<=sizeLine;decide,ko _ _ l0 l1 h0 h1 (ag hi) ev⟩
  | some v =>
   left
   refine ⟨p,C,g.dx,_,_,rfl,I.ob,T.cl,T.nL,zp _ _ _ _ _,?_⟩
   left
   refine ⟨_,_,_,_,rfl,rfl,SqL.of I.le,hat,?_⟩
   left
   refine ⟨_,_,.inl y,rfl,h0',rfl,by rw [ev];rfl,?_⟩
   exact k _ _ _ l0 l1 h0 h1 (ag hi) (by show (qx (g.lds[l.toNat]'hi).2 (.inl y)).isSome=true;rw [ev];rfl) Ext.put (I.leap (ag hi) hn nd Ext.put j8)
theorem IceAt.cycle {C p cy:Addr}{H H':Hp}{g:IceG}{ys:List V}{ts:List T3}(I:IceAt C H p g) (s:∀a u,H a=some u->a≠p->H' a=some u) (ho:H' p=some (.ins C g.dx (vX g.va cy g.sl g.ye g.le))) (hc:H' cy=some (.lst ys)) (hr:jQ H' ys ts):IceAt C H' p { g with cy:=cy,ys:=ys,rows:=ts } :=
 have n:∀{a:Addr} {u:HO},H a=some u->(∀c d f,u≠.ins c d f)->H' a=some u:=λh d=>s _ _ h (jp h I.ob (d _ _ _))
 ⟨ho,n I.va (by intro _ _ _ z;cases z),I.rs.keep λa xs h=>n h (by intro _ _ _ z;cases z),hc,hr,n I.sl (by intro _ _ _ z;cases z),Paired.mapP I.slopes λ_ _ ⟨a,e,q⟩=>⟨a,e,n q (by intro _ _ _ z;cases z)⟩,n I.ye (by intro _ _ _ z;cases z),n I.le (by intro _ _ _ z;cases z),λx hx=>n (I.lds x hx) (by intro _ _ _ z;cases z)⟩
noncomputable def YE (C CR:Addr):Sp:=λvs H Q E=>∃(p ra:Addr) (g:IceG) (xs:List V) (ts:List T3),vs=[.ref p,.ref ra]/\IceAt C H p g/\H ra=some (.lst xs)/\jQ H xs ts/\ts.length<=1000 /\
 (∀H' cy,gr ts=true->H cy=none->Ext p H H'->IceAt C H' p { g with cy:=cy,ys:=xs,rows:=ts }->Q .non H')/\∀H',gr ts=false->jq H H'->E (.ref CR) none H'
theorem Jy:FnScope ["self","rows"] ["self","rows"] (j9 yX):=by walk_at "s"
theorem Jg {f C CR:Addr}{fd:FuncData}(nb:Nb2 mg) (T:IceC K C) (c_check_round:CalX P w K mg base 3 "check_round" ["rows"] (yi CR)) (F:Fun K "turn" "Ice.turn" yX f fd):FnOk P w K mg base (CX1 P w) 4 f fd ["self","rows"] (YE C CR):=by
 refine Fun.okX F Jy (λvs H Q E h=>?_) (λcdv A outer s H vs Q E hr h=>?_)
 ·obtain ⟨p,ra,g,xs,ts,rfl,_⟩:=h
  rfl
 ·obtain ⟨p,ra,g,xs,ts,rfl,I,hra,r0,h1000,k,kr⟩:=h
  refine ⟨_,(j7 (qi (zi c_check_round (hr.mono ⋯) ze rfl (j2 (pv 1) j5)))
   (jb (yY K (pv 0) (jL (qa K) rfl nb.b_list bz (j2 (pv 1) j5))))),?_⟩
  left
  refine ⟨ra,xs,ts,rfl,hra,r0,h1000,λH1 hg s1=>?_,λH1 hg s1=>kr H1 hg s1⟩
  left
  refine ⟨ra,xs,rfl,.inl (SqL.of (s1 _ _ hra)),λcy H2 hcy hcy2 s2=>?_⟩
  have I2:=I.same (s1.trans s2)
  left
  refine ⟨p,C,g.dx,_,rfl,I2.ob,T.cl,T.nC,by show 5<1000;decide,?_⟩
  rw [show jv "cycle" (V.ref cy) (vX g.va g.cy g.sl g.ye g.le)=vX g.va cy g.sl g.ye g.le by rfl]
  have cyp:cy≠p:=λz=>by
   have:=s1 _ _ I.ob
   rw [<- z,hcy] at this
   cases this
  have nP:∀{a:Addr} {u v:HO},H2 a=some u->a≠p->(upd H2 p v) a=some u:=λh n=>by rw [ja n];exact h
  exact k _ cy hg (s1.free hcy) (λc o hc n=>nP (s2 _ _ (s1 _ _ hc)) n) (I2.cycle (λa u h n=>nP h n) j8 (nP hcy2 cyp) (jQ.imp r0 λq t h=>nP (s2 _ _ (s1 _ _ h)) (jp h I.ob (by walk_at "z"))))
theorem wj:eR "ValueError" = some (.type "ValueError"):=∅
theorem gu {X:Cx}{tg:Expr}{l:Expr}{tl:TE}(K:ai) (hl:PE X l tl) (hK:X.K=K:=by rfl):PIH X tg l (ZA K tl):=by subst hK;exact Vw hl
theorem xp:FnScope ["_law_e","_law_known"] ["_law_e"] (j9 qN):=by walk_at "s"
noncomputable def uN (b0 b1 b2 b3:Bool):List (Str×Bool):=[("BadYear",b0),("NoLane",b1),("NoPlace",b2),("BadHand",b3),("ValueError",true)]
noncomputable def yR (ws:List (Str×Bool)) (i:Nat):List V:=((ws.take i).filter (·.2)).map λq=>V.str q.1
theorem Qu {ws:List (Str×Bool)}{i:Nat}{nm:Str}{b:Bool}(h:ws[i]? = some (nm,b)):yR ws (i+1)=yR ws i++(if b=true then [V.str nm] else []):=by
 unfold yR
 rw [bE,h,dw,cc,aC]
 cases b <;> rfl
theorem vh (ws:List (Str×Bool)) (i:Nat):(yR ws i).length<=i:=by
 unfold yR
 rw [af]
 exact aF (bo _ _) (List.length_take_le _ _)
structure RefK (K:ai) (C0 C1 C2 C3 D:Addr) (b0 b1 b2 b3:Bool):Prop where
 ek:ExK K D
 k0:aG K (.ref D) (.ref C0)=some b0
 k1:aG K (.ref D) (.ref C1)=some b1
 k2:aG K (.ref D) (.ref C2)=some b2
 k3:aG K (.ref D) (.ref C3)=some b3
 k4:aG K (.ref D) (.type "ValueError")=some true
noncomputable def gp (K:ai) (C0 C1 C2 C3:Addr):Addr->ah->List V->Hp->VK->Prop:=λa cls vs H Q=>∃D b0 b1 b2 b3,vs=[.ref a]/\cls = .ref D/\RefK K C0 C1 C2 C3 D b0 b1 b2 b3/\∀t H',H' t=some (.tup (.str "no" :: yR (uN b0 b1 b2 b3) 5))->jq H H'->Q (.ref t) H'
theorem XZ {f C0 C1 C2 C3:Addr}{fd:FuncData}(nb:Nb2 mg) (b_ValueError:mg "ValueError" = none) (e_BadYear:mg "BadYear" = some (.ref C0)) (e_NoLane:mg "NoLane" = some (.ref C1)) (e_NoPlace:mg "NoPlace" = some (.ref C2)) (e_BadHand:mg "BadHand" = some (.ref C3))
  (F:Fun K "_law_refused" "_law_refused" qN f fd):FnH P w K mg base 1 f fd ["_law_e"] (gp K C0 C1 C2 C3):=by
 refine F.okH xp (λcdv A outer s H vs Q a oe cls ae h=>?_)
 obtain ⟨D,b0,b1,b2,b3,rfl,rfl,⟨ek,k0,k1,k2,k3,k4⟩,k⟩:=h
 have hu:Hu (cxH P w K mg base ["_law_e","_law_known"] "_law_refused" (j9 qN) f cdv A outer s H):=YH ae
 have isx:=Qy (X:=cxH P w K mg base ["_law_e","_law_known"] "_law_refused" (j9 qN) f cdv A outer s H) K ek ae.at_ ae.free ae.out (λz=>by cases z) ae.ex
 refine ⟨_,(j7 (ju 1 xp.nd (jz (j2 (js (j2 jc (j2 (jd isx rfl nb.b_isinstance aH (j2 (pv 0) (j2 (jF (v:=V.ref _) rfl e_BadYear rfl) j5))) j5))) (j2 (js (j2 jc (j2 (jd isx rfl nb.b_isinstance aH (j2 (pv 0) (j2 (jF (v:=V.ref _) rfl e_NoLane rfl) j5))) j5))) j5))))
   (j7 (ju 1 xp.nd (jo qX (pv 1) (jz (j2 (js (j2 jc (j2 (jd isx rfl nb.b_isinstance aH (j2 (pv 0) (j2 (jF (v:=V.ref _) rfl e_NoPlace rfl) j5))) j5))) (j2 (js (j2 jc (j2 (jd isx rfl nb.b_isinstance aH (j2 (pv 0) (j2 (jF (v:=V.ref _) rfl e_BadHand rfl) j5))) j5))) j5)))))
   (j7 (ju 1 xp.nd (jo qX (pv 1) (jz (j2 (js (j2 jc (j2 (jd isx rfl nb.b_isinstance aH (j2 (pv 0) (j2 (xg (v:=V.ty "ValueError") rfl b_ValueError wj rfl) j5))) j5))) j5))))
   (jb (jj (jo ud (js (j2 jc j5)) (jL (qQ K) rfl nb.b_tuple c8 (j2 (QU (osc:=(j9 qN)) (ON:=["_law_e","_law_known"]) (N:=["_law_name","_law_so"]) (own:=2) (caps:=[]) ⟨rfl,∅,∅,∅,rfl,∅⟩ hu rfl rfl (gu K (pv 1)) (λ_ _ _ _ _ hub=>(Zv (n:=2) K hub (jE (ji (i:=0) (show aZ (["_law_name","_law_so"]:List Str) by decide +kernel) rfl (bb rfl)) (jE (ji (i:=1) (show aZ (["_law_name","_law_so"]:List Str) by decide +kernel) rfl (bb rfl)) qV)))) (λ_ _ _ _ _ hub=>(y6 (xC (pv 1)))) (λ_ _ _ _ _ hub=>(pv 0))) j5)))))))),?_⟩
 left
 refine ⟨_,_,_,rfl,λu h=>h,k0,?_⟩
 left
 refine ⟨by show 2<=sizeLine;decide,λt0 H0 n0 h0 s0=>?_⟩
 left
 refine ⟨_,_,_,rfl,λu h=>h,k1,?_⟩
 left
 refine ⟨by show 2<=sizeLine;decide,λt1 H1 n1 h1 s1=>?_⟩
 left
 refine ⟨by show 2<=sizeLine;decide,λl1 H2 n2 h2 s2=>?_⟩
 left
 refine ⟨_,_,_,rfl,λu h=>h,k2,?_⟩
 left
 refine ⟨by show 2<=sizeLine;decide,λt2 H3 n3 h3 s3=>?_⟩
 left
 refine ⟨_,_,_,rfl,λu h=>h,k3,?_⟩
 left
 refine ⟨by show 2<=sizeLine;decide,λt3 H4 n4 h4 s4=>?_⟩
 left
 refine ⟨by show 2<=sizeLine;decide,λl2 H5 n5 h5 s5=>?_⟩
 refine ⟨l1,l2,_,_,rfl,rfl,s5 _ _ (s4 _ _ (s3 _ _ h2)),h5,by show 4<=sizeLine;decide,λl3 H6 n6 h6 s6=>?_⟩
 left
 refine ⟨_,_,_,rfl,λu h=>h,k4,?_⟩
 left
 refine ⟨by show 2<=sizeLine;decide,λt4 H7 n7 h7 s7=>?_⟩
 left
 refine ⟨by show 1<=sizeLine;decide,λl4 H8 n8 h8 s8=>?_⟩
 refine ⟨l3,l4,_,_,rfl,rfl,s8 _ _ (s7 _ _ h6),h8,by show 5<=sizeLine;decide,λl5 H9 n9 h9 s9=>?_⟩
 left
 refine ⟨by show 1<=sizeLine;decide,λtn H10 n10 h10 s10=>?_⟩
 left
 have up8:∀{p o},H8 p=some o->H10 p=some o:=λh=>s10 _ _ (s9 _ _ h)
 have up3:∀{p o},H3 p=some o->H10 p=some o:=λh=>up8 (s8 _ _ (s7 _ _ (s6 _ _ (s5 _ _ (s4 _ _ h)))))
 have p0:H10 t0=some (.tup [.str "BadYear",.bl b0]):=up3 (s3 _ _ (s2 _ _ (s1 _ _ h0)))
 have p1:H10 t1=some (.tup [.str "NoLane",.bl b1]):=up3 (s3 _ _ (s2 _ _ h1))
 have p2:H10 t2=some (.tup [.str "NoPlace",.bl b2]):=up3 h3
 have p3:H10 t3=some (.tup [.str "BadHand",.bl b3]):=up8 (s8 _ _ (s7 _ _ (s6 _ _ (s5 _ _ h4))))
 have p4:H10 t4=some (.tup [.str "ValueError",.bl true]):=up8 (s8 _ _ h7)
 have p5:H10 l5=some (.lst [.ref t0,.ref t1,.ref t2,.ref t3,.ref t4]):=s10 _ _ h9
 have all:jq H H10:=((((((((((s0.trans s1).trans s2).trans s3).trans s4).trans s5).trans s6).trans s7).trans s8).trans s9).trans s10)
 clear up8 up3 h0 h1 h2 h3 h4 h5 h6 h7 h8 h9 s0 s1 s2 s3 s4 s5 s6 s7 s8 s9 n0 n1 n2 n3 n4 n5 n6 n7 n8 n9
 have pr:∀(i:Nat) (v:V),[V.ref t0,.ref t1,.ref t2,.ref t3,.ref t4][i]? = some v->∃t nm b,v = .ref t/\(uN b0 b1 b2 b3)[i]? = some (nm,b)/\H10 t=some (.tup [.str nm,.bl b]):=λi v hv=>by
  match i,hv with
  | 0,hv=>cases hv;exact ⟨_,_,_,rfl,rfl,p0⟩
  | 1,hv=>cases hv;exact ⟨_,_,_,rfl,rfl,p1⟩
  | 2,hv=>cases hv;exact ⟨_,_,_,rfl,rfl,p2⟩
  | 3,hv=>cases hv;exact ⟨_,_,_,rfl,rfl,p3⟩
  | 4,hv=>cases hv;exact ⟨_,_,_,rfl,rfl,p4⟩
  | n+5,hv=>cases hv
 refine ⟨⟨_,SqL.of p5⟩,λacc hacc=>?_⟩
 refine qc (K:=K) (a:=l5) (acc:=acc) (xs:=[V.ref t0,.ref t1,.ref t2,.ref t3,.ref t4]) (λi σ H'=>∃x y:Option V,σ=[x,y]/\H' acc=some (.lst (yR (uN b0 b1 b2 b3) i))/\Ext acc H10 H') ?_ ?_ ?_ ?_
 ·exact ⟨none,none,rfl,j8,Ext.put⟩
 ·rintro i σ H' hi ⟨x,y,rfl,h3,e3⟩
  exact SqL.of (e3 _ _ p5 (j4 p5 hacc))
 ·rintro i v σ H' hv ⟨x,y,rfl,h3,e3⟩
  obtain ⟨t,nm,b,rfl,hw,ht⟩:=pr i v hv
  have kk:=Qu hw
  have hi5:i<5:=(List.getElem?_eq_some_iff.mp hv).1
  have kl:=vh (uN b0 b1 b2 b3) i
  refine ⟨t,_,rfl,SqT.of (e3 _ _ ht (j4 ht hacc)),rfl,?_⟩
  cases b with
  | false =>
   rw [if_neg ar,aP] at kk
   refine ⟨_,_,rfl,_,_,rfl,rfl,_,rfl,_,rfl,?_⟩
   dsimp only
   rw [if_neg ar]
   exact ⟨_,_,rfl,by rw [kk];exact h3,e3⟩
  | true =>
   rw [if_pos rfl] at kk
   refine ⟨_,_,rfl,_,_,rfl,rfl,_,rfl,_,rfl,?_⟩
   dsimp only
   rw [if_pos rfl]
   refine ⟨_,rfl,_,h3,bI kl (by show i<16777216;omega),_,_,rfl,?_,e3.trans Ext.put⟩
   rw [j8,kk]
 ·rintro σ H' ⟨x,y,rfl,h3,e3⟩
  refine ⟨acc,_,rfl,SqL.of h3,λtt H11 n11 h11 s11=>?_⟩
  have z:Ext acc H10 H11:=e3.trans (Ext.of_same s11)
  refine ⟨tn,tt,_,_,rfl,rfl,z _ _ h10 (j4 h10 hacc),h11,by have:=vh (uN b0 b1 b2 b3) 5;show 1+(yR (uN b0 b1 b2 b3) 5).length<=16777216;omega,λtf H12 s12 h12=>?_⟩
  refine k tf H12 h12 λb o hb=>s12 _ _ (z _ _ (all _ _ hb) (j4 (all _ _ hb) hacc))
theorem qk:FnScope ["_law_e","_law_known"] ["_law_e"] (j9 xj):=by walk_at "s"
noncomputable def uL (n:Nat):List (Str×Bool):=[("BadValley",decide (0=n)),("BadRound",decide (1=n)),("BadWeather",decide (2=n)),("BadYear",decide (3=n)),("BadSurge",decide (4=n)),("BadRock",decide (5=n)),("BadName",decide (6=n)),("BadHand",decide (7=n)),("BadDeed",decide (8=n)),("NoLane",decide (9=n)),("NoPlace",decide (10=n)),("NoName",decide (11=n)),("NotTold",decide (12=n)),("NothingThere",decide (13=n)),("Taken",decide (14=n)),("Full",decide (15=n)),("BadPage",decide (16=n))]
structure KindK (K:ai) (Cs:List Addr) (D:Addr) (n:Nat):Prop where
 ek:ExK K D
 k0:aG K (.ref D) (.ref (Cs.getD 0 0))=some (decide (0=n))
 k1:aG K (.ref D) (.ref (Cs.getD 1 0))=some (decide (1=n))
 k2:aG K (.ref D) (.ref (Cs.getD 2 0))=some (decide (2=n))
 k3:aG K (.ref D) (.ref (Cs.getD 3 0))=some (decide (3=n))
 k4:aG K (.ref D) (.ref (Cs.getD 4 0))=some (decide (4=n))
 k5:aG K (.ref D) (.ref (Cs.getD 5 0))=some (decide (5=n))
 k6:aG K (.ref D) (.ref (Cs.getD 6 0))=some (decide (6=n))
 k7:aG K (.ref D) (.ref (Cs.getD 7 0))=some (decide (7=n))
 k8:aG K (.ref D) (.ref (Cs.getD 8 0))=some (decide (8=n))
 k9:aG K (.ref D) (.ref (Cs.getD 9 0))=some (decide (9=n))
 k10:aG K (.ref D) (.ref (Cs.getD 10 0))=some (decide (10=n))
 k11:aG K (.ref D) (.ref (Cs.getD 11 0))=some (decide (11=n))
 k12:aG K (.ref D) (.ref (Cs.getD 12 0))=some (decide (12=n))
 k13:aG K (.ref D) (.ref (Cs.getD 13 0))=some (decide (13=n))
 k14:aG K (.ref D) (.ref (Cs.getD 14 0))=some (decide (14=n))
 k15:aG K (.ref D) (.ref (Cs.getD 15 0))=some (decide (15=n))
 k16:aG K (.ref D) (.ref (Cs.getD 16 0))=some (decide (16=n))
noncomputable def Zk (K:ai) (Cs:List Addr):Addr->ah->List V->Hp->VK->Prop:=λa cls vs H Q=>∃D n,vs=[.ref a]/\cls = .ref D/\KindK K Cs D n/\∀t H',H' t=some (.tup (.str "no" :: yR (uL n) 17))->jq H H'->Q (.ref t) H'
theorem Vz {f:Addr}{Cs:List Addr}{fd:FuncData}(nb:Nb2 mg) (e_BadValley:mg "BadValley" = some (.ref (Cs.getD 0 0))) (e_BadRound:mg "BadRound" = some (.ref (Cs.getD 1 0))) (e_BadWeather:mg "BadWeather" = some (.ref (Cs.getD 2 0))) (e_BadYear:mg "BadYear" = some (.ref (Cs.getD 3 0))) (e_BadSurge:mg "BadSurge" = some (.ref (Cs.getD 4 0))) (e_BadRock:mg "BadRock" = some (.ref (Cs.getD 5 0))) (e_BadName:mg "BadName" = some (.ref (Cs.getD 6 0))) (e_BadHand:mg "BadHand" = some (.ref (Cs.getD 7 0))) (e_BadDeed:mg "BadDeed" = some (.ref (Cs.getD 8 0))) (e_NoLane:mg "NoLane" = some (.ref (Cs.getD 9 0))) (e_NoPlace:mg "NoPlace" = some (.ref (Cs.getD 10 0))) (e_NoName:mg "NoName" = some (.ref (Cs.getD 11 0))) (e_NotTold:mg "NotTold" = some (.ref (Cs.getD 12 0))) (e_NothingThere:mg "NothingThere" = some (.ref (Cs.getD 13 0))) (e_Taken:mg "Taken" = some (.ref (Cs.getD 14 0))) (e_Full:mg "Full" = some (.ref (Cs.getD 15 0))) (e_BadPage:mg "BadPage" = some (.ref (Cs.getD 16 0)))
  (F:Fun K "_law_kinds" "_law_kinds" xj f fd):FnH P w K mg base 1 f fd ["_law_e"] (Zk K Cs):=by
 refine F.okH qk (λcdv A outer s H vs Q a oe cls ae h=>?_)
 obtain ⟨D,n,rfl,rfl,kd,k⟩:=h
 have ek:=kd.ek
 have hu:Hu (cxH P w K mg base ["_law_e","_law_known"] "_law_kinds" (j9 xj) f cdv A outer s H):=YH ae
 have isx:=Qy (X:=cxH P w K mg base ["_law_e","_law_known"] "_law_kinds" (j9 xj) f cdv A outer s H) K ek ae.at_ ae.free ae.out (λz=>by cases z) ae.ex
 refine ⟨_,(j7 (ju 1 qk.nd (jz (j2 (js (j2 jc (j2 (jd isx rfl nb.b_isinstance aH (j2 (pv 0) (j2 (jF (v:=V.ref _) rfl e_BadValley rfl) j5))) j5))) (j2 (js (j2 jc (j2 (jd isx rfl nb.b_isinstance aH (j2 (pv 0) (j2 (jF (v:=V.ref _) rfl e_BadRound rfl) j5))) j5))) j5))))
   (j7 (ju 1 qk.nd (jo qX (pv 1) (jz (j2 (js (j2 jc (j2 (jd isx rfl nb.b_isinstance aH (j2 (pv 0) (j2 (jF (v:=V.ref _) rfl e_BadWeather rfl) j5))) j5))) (j2 (js (j2 jc (j2 (jd isx rfl nb.b_isinstance aH (j2 (pv 0) (j2 (jF (v:=V.ref _) rfl e_BadYear rfl) j5))) j5))) j5)))))
   (j7 (ju 1 qk.nd (jo qX (pv 1) (jz (j2 (js (j2 jc (j2 (jd isx rfl nb.b_isinstance aH (j2 (pv 0) (j2 (jF (v:=V.ref _) rfl e_BadSurge rfl) j5))) j5))) (j2 (js (j2 jc (j2 (jd isx rfl nb.b_isinstance aH (j2 (pv 0) (j2 (jF (v:=V.ref _) rfl e_BadRock rfl) j5))) j5))) j5)))))
   (j7 (ju 1 qk.nd (jo qX (pv 1) (jz (j2 (js (j2 jc (j2 (jd isx rfl nb.b_isinstance aH (j2 (pv 0) (j2 (jF (v:=V.ref _) rfl e_BadName rfl) j5))) j5))) (j2 (js (j2 jc (j2 (jd isx rfl nb.b_isinstance aH (j2 (pv 0) (j2 (jF (v:=V.ref _) rfl e_BadHand rfl) j5))) j5))) j5)))))
   (j7 (ju 1 qk.nd (jo qX (pv 1) (jz (j2 (js (j2 jc (j2 (jd isx rfl nb.b_isinstance aH (j2 (pv 0) (j2 (jF (v:=V.ref _) rfl e_BadDeed rfl) j5))) j5))) (j2 (js (j2 jc (j2 (jd isx rfl nb.b_isinstance aH (j2 (pv 0) (j2 (jF (v:=V.ref _) rfl e_NoLane rfl) j5))) j5))) j5)))))
   (j7 (ju 1 qk.nd (jo qX (pv 1) (jz (j2 (js (j2 jc (j2 (jd isx rfl nb.b_isinstance aH (j2 (pv 0) (j2 (jF (v:=V.ref _) rfl e_NoPlace rfl) j5))) j5))) (j2 (js (j2 jc (j2 (jd isx rfl nb.b_isinstance aH (j2 (pv 0) (j2 (jF (v:=V.ref _) rfl e_NoName rfl) j5))) j5))) j5)))))
   (j7 (ju 1 qk.nd (jo qX (pv 1) (jz (j2 (js (j2 jc (j2 (jd isx rfl nb.b_isinstance aH (j2 (pv 0) (j2 (jF (v:=V.ref _) rfl e_NotTold rfl) j5))) j5))) (j2 (js (j2 jc (j2 (jd isx rfl nb.b_isinstance aH (j2 (pv 0) (j2 (jF (v:=V.ref _) rfl e_NothingThere rfl) j5))) j5))) j5)))))
   (j7 (ju 1 qk.nd (jo qX (pv 1) (jz (j2 (js (j2 jc (j2 (jd isx rfl nb.b_isinstance aH (j2 (pv 0) (j2 (jF (v:=V.ref _) rfl e_Taken rfl) j5))) j5))) (j2 (js (j2 jc (j2 (jd isx rfl nb.b_isinstance aH (j2 (pv 0) (j2 (jF (v:=V.ref _) rfl e_Full rfl) j5))) j5))) j5)))))
   (j7 (ju 1 qk.nd (jo qX (pv 1) (jz (j2 (js (j2 jc (j2 (jd isx rfl nb.b_isinstance aH (j2 (pv 0) (j2 (jF (v:=V.ref _) rfl e_BadPage rfl) j5))) j5))) j5))))
   (jb (jj (jo ud (js (j2 jc j5)) (jL (qQ K) rfl nb.b_tuple c8 (j2 (QU (osc:=(j9 xj)) (ON:=["_law_e","_law_known"]) (N:=["_law_name","_law_so"]) (own:=2) (caps:=[]) ⟨rfl,∅,∅,∅,rfl,∅⟩ hu rfl rfl (gu K (pv 1)) (λ_ _ _ _ _ hub=>(Zv (n:=2) K hub (jE (ji (i:=0) (show aZ (["_law_name","_law_so"]:List Str) by decide +kernel) rfl (bb rfl)) (jE (ji (i:=1) (show aZ (["_law_name","_law_so"]:List Str) by decide +kernel) rfl (bb rfl)) qV)))) (λ_ _ _ _ _ hub=>(y6 (xC (pv 1)))) (λ_ _ _ _ _ hub=>(pv 0))) j5)))))))))))))),?_⟩
 left
 refine ⟨_,_,_,rfl,λu h=>h,kd.k0,?_⟩
 left
 refine ⟨by show 2<=sizeLine;decide,λt0 H1 n1 h1 s1=>?_⟩
 left
 refine ⟨_,_,_,rfl,λu h=>h,kd.k1,?_⟩
 left
 refine ⟨by show 2<=sizeLine;decide,λt1 H2 n2 h2 s2=>?_⟩
 left
 refine ⟨by show 2<=sizeLine;decide,λl0 H3 n3 h3 s3=>?_⟩
 left
 refine ⟨_,_,_,rfl,λu h=>h,kd.k2,?_⟩
 left
 refine ⟨by show 2<=sizeLine;decide,λt2 H4 n4 h4 s4=>?_⟩
 left
 refine ⟨_,_,_,rfl,λu h=>h,kd.k3,?_⟩
 left
 refine ⟨by show 2<=sizeLine;decide,λt3 H5 n5 h5 s5=>?_⟩
 left
 refine ⟨by show 2<=sizeLine;decide,λl1 H6 n6 h6 s6=>?_⟩
 refine ⟨l0,l1,_,_,rfl,rfl,s6 _ _ (s5 _ _ (s4 _ _ h3)),h6,by show 4<=sizeLine;decide,λm1 H7 n7 h7 s7=>?_⟩
 left
 refine ⟨_,_,_,rfl,λu h=>h,kd.k4,?_⟩
 left
 refine ⟨by show 2<=sizeLine;decide,λt4 H8 n8 h8 s8=>?_⟩
 left
 refine ⟨_,_,_,rfl,λu h=>h,kd.k5,?_⟩
 left
 refine ⟨by show 2<=sizeLine;decide,λt5 H9 n9 h9 s9=>?_⟩
 left
 refine ⟨by show 2<=sizeLine;decide,λl2 H10 n10 h10 s10=>?_⟩
 refine ⟨m1,l2,_,_,rfl,rfl,s10 _ _ (s9 _ _ (s8 _ _ h7)),h10,by show 6<=sizeLine;decide,λm2 H11 n11 h11 s11=>?_⟩
 left
 refine ⟨_,_,_,rfl,λu h=>h,kd.k6,?_⟩
 left
 refine ⟨by show 2<=sizeLine;decide,λt6 H12 n12 h12 s12=>?_⟩
 left
 refine ⟨_,_,_,rfl,λu h=>h,kd.k7,?_⟩
 left
 refine ⟨by show 2<=sizeLine;decide,λt7 H13 n13 h13 s13=>?_⟩
 left
 refine ⟨by show 2<=sizeLine;decide,λl3 H14 n14 h14 s14=>?_⟩
 refine ⟨m2,l3,_,_,rfl,rfl,s14 _ _ (s13 _ _ (s12 _ _ h11)),h14,by show 8<=sizeLine;decide,λm3 H15 n15 h15 s15=>?_⟩
 left
 refine ⟨_,_,_,rfl,λu h=>h,kd.k8,?_⟩
 left
 refine ⟨by show 2<=sizeLine;decide,λt8 H16 n16 h16 s16=>?_⟩
 left
 refine ⟨_,_,_,rfl,λu h=>h,kd.k9,?_⟩
 left
 refine ⟨by show 2<=sizeLine;decide,λt9 H17 n17 h17 s17=>?_⟩
 left
 refine ⟨by show 2<=sizeLine;decide,λl4 H18 n18 h18 s18=>?_⟩
 refine ⟨m3,l4,_,_,rfl,rfl,s18 _ _ (s17 _ _ (s16 _ _ h15)),h18,by show 10<=sizeLine;decide,λm4 H19 n19 h19 s19=>?_⟩
 left
 refine ⟨_,_,_,rfl,λu h=>h,kd.k10,?_⟩
 left
 refine ⟨by show 2<=sizeLine;decide,λt10 H20 n20 h20 s20=>?_⟩
 left
 refine ⟨_,_,_,rfl,λu h=>h,kd.k11,?_⟩
 left
 refine ⟨by show 2<=sizeLine;decide,λt11 H21 n21 h21 s21=>?_⟩
 left
 refine ⟨by show 2<=sizeLine;decide,λl5 H22 n22 h22 s22=>?_⟩
 refine ⟨m4,l5,_,_,rfl,rfl,s22 _ _ (s21 _ _ (s20 _ _ h19)),h22,by show 12<=sizeLine;decide,λm5 H23 n23 h23 s23=>?_⟩
 left
 refine ⟨_,_,_,rfl,λu h=>h,kd.k12,?_⟩
 left
 refine ⟨by show 2<=sizeLine;decide,λt12 H24 n24 h24 s24=>?_⟩
 left
 refine ⟨_,_,_,rfl,λu h=>h,kd.k13,?_⟩
 left
 refine ⟨by show 2<=sizeLine;decide,λt13 H25 n25 h25 s25=>?_⟩
 left
 refine ⟨by show 2<=sizeLine;decide,λl6 H26 n26 h26 s26=>?_⟩
 refine ⟨m5,l6,_,_,rfl,rfl,s26 _ _ (s25 _ _ (s24 _ _ h23)),h26,by show 14<=sizeLine;decide,λm6 H27 n27 h27 s27=>?_⟩
 left
 refine ⟨_,_,_,rfl,λu h=>h,kd.k14,?_⟩
 left
 refine ⟨by show 2<=sizeLine;decide,λt14 H28 n28 h28 s28=>?_⟩
 left
 refine ⟨_,_,_,rfl,λu h=>h,kd.k15,?_⟩
 left
 refine ⟨by show 2<=sizeLine;decide,λt15 H29 n29 h29 s29=>?_⟩
 left
 refine ⟨by show 2<=sizeLine;decide,λl7 H30 n30 h30 s30=>?_⟩
 refine ⟨m6,l7,_,_,rfl,rfl,s30 _ _ (s29 _ _ (s28 _ _ h27)),h30,by show 16<=sizeLine;decide,λm7 H31 n31 h31 s31=>?_⟩
 left
 refine ⟨_,_,_,rfl,λu h=>h,kd.k16,?_⟩
 left
 refine ⟨by show 2<=sizeLine;decide,λt16 H32 n32 h32 s32=>?_⟩
 left
 refine ⟨by show 1<=sizeLine;decide,λl8 H33 n33 h33 s33=>?_⟩
 refine ⟨m7,l8,_,_,rfl,rfl,s33 _ _ (s32 _ _ h31),h33,by show 17<=sizeLine;decide,λm8 H34 n34 h34 s34=>?_⟩
 left
 refine ⟨by show 1<=sizeLine;decide,λtn H35 n35 h35 s35=>?_⟩
 left
 have u8:∀{p o},H34 p=some o->H35 p=some o:=λh=>s35 _ _ h
 have u7:∀{p o},H31 p=some o->H35 p=some o:=λh=>u8 (s34 _ _ (s33 _ _ (s32 _ _ h)))
 have u6:∀{p o},H27 p=some o->H35 p=some o:=λh=>u7 (s31 _ _ (s30 _ _ (s29 _ _ (s28 _ _ h))))
 have u5:∀{p o},H23 p=some o->H35 p=some o:=λh=>u6 (s27 _ _ (s26 _ _ (s25 _ _ (s24 _ _ h))))
 have u4:∀{p o},H19 p=some o->H35 p=some o:=λh=>u5 (s23 _ _ (s22 _ _ (s21 _ _ (s20 _ _ h))))
 have u3:∀{p o},H15 p=some o->H35 p=some o:=λh=>u4 (s19 _ _ (s18 _ _ (s17 _ _ (s16 _ _ h))))
 have u2:∀{p o},H11 p=some o->H35 p=some o:=λh=>u3 (s15 _ _ (s14 _ _ (s13 _ _ (s12 _ _ h))))
 have u1:∀{p o},H7 p=some o->H35 p=some o:=λh=>u2 (s11 _ _ (s10 _ _ (s9 _ _ (s8 _ _ h))))
 have u0:∀{p o},H3 p=some o->H35 p=some o:=λh=>u1 (s7 _ _ (s6 _ _ (s5 _ _ (s4 _ _ h))))
 have p0:H35 t0=some (.tup [.str "BadValley",.bl (decide (0=n))]):=u0 (s3 _ _ (s2 _ _ h1))
 have p1:H35 t1=some (.tup [.str "BadRound",.bl (decide (1=n))]):=u0 (s3 _ _ h2)
 have p2:H35 t2=some (.tup [.str "BadWeather",.bl (decide (2=n))]):=u1 (s7 _ _ (s6 _ _ (s5 _ _ h4)))
 have p3:H35 t3=some (.tup [.str "BadYear",.bl (decide (3=n))]):=u1 (s7 _ _ (s6 _ _ h5))
 have p4:H35 t4=some (.tup [.str "BadSurge",.bl (decide (4=n))]):=u2 (s11 _ _ (s10 _ _ (s9 _ _ h8)))
 have p5:H35 t5=some (.tup [.str "BadRock",.bl (decide (5=n))]):=u2 (s11 _ _ (s10 _ _ h9))
 have p6:H35 t6=some (.tup [.str "BadName",.bl (decide (6=n))]):=u3 (s15 _ _ (s14 _ _ (s13 _ _ h12)))
 have p7:H35 t7=some (.tup [.str "BadHand",.bl (decide (7=n))]):=u3 (s15 _ _ (s14 _ _ h13))
 have p8:H35 t8=some (.tup [.str "BadDeed",.bl (decide (8=n))]):=u4 (s19 _ _ (s18 _ _ (s17 _ _ h16)))
 have p9:H35 t9=some (.tup [.str "NoLane",.bl (decide (9=n))]):=u4 (s19 _ _ (s18 _ _ h17))
 have p10:H35 t10=some (.tup [.str "NoPlace",.bl (decide (10=n))]):=u5 (s23 _ _ (s22 _ _ (s21 _ _ h20)))
 have p11:H35 t11=some (.tup [.str "NoName",.bl (decide (11=n))]):=u5 (s23 _ _ (s22 _ _ h21))
 have p12:H35 t12=some (.tup [.str "NotTold",.bl (decide (12=n))]):=u6 (s27 _ _ (s26 _ _ (s25 _ _ h24)))
 have p13:H35 t13=some (.tup [.str "NothingThere",.bl (decide (13=n))]):=u6 (s27 _ _ (s26 _ _ h25))
 have p14:H35 t14=some (.tup [.str "Taken",.bl (decide (14=n))]):=u7 (s31 _ _ (s30 _ _ (s29 _ _ h28)))
 have p15:H35 t15=some (.tup [.str "Full",.bl (decide (15=n))]):=u7 (s31 _ _ (s30 _ _ h29))
 have p16:H35 t16=some (.tup [.str "BadPage",.bl (decide (16=n))]):=u8 (s34 _ _ (s33 _ _ h32))
 have pl:H35 m8=some (.lst [V.ref t0,V.ref t1,V.ref t2,V.ref t3,V.ref t4,V.ref t5,V.ref t6,V.ref t7,V.ref t8,V.ref t9,V.ref t10,V.ref t11,V.ref t12,V.ref t13,V.ref t14,V.ref t15,V.ref t16]):=s35 _ _ h34
 have all:jq H H35:=λc o h=>u0 (s3 _ _ (s2 _ _ (s1 _ _ h)))
 clear u0 u1 u2 u3 u4 u5 u6 u7 u8 h1 h2 h3 h4 h5 h6 h7 h8 h9 h10 h11 h12 h13 h14 h15 h16 h17 h18 h19 h20 h21 h22 h23 h24 h25 h26 h27 h28 h29 h30 h31 h32 h33 h34 s1 s2 s3 s4 s5 s6 s7 s8 s9 s10 s11 s12 s13 s14 s15 s16 s17 s18 s19 s20 s21 s22 s23 s24 s25 s26 s27 s28 s29 s30 s31 s32 s33 s34 s35 n1 n2 n3 n4 n5 n6 n7 n8 n9 n10 n11 n12 n13 n14 n15 n16 n17 n18 n19 n20 n21 n22 n23 n24 n25 n26 n27 n28 n29 n30 n31 n32 n33 n34
 have pr:∀(i:Nat) (v:V),[V.ref t0,V.ref t1,V.ref t2,V.ref t3,V.ref t4,V.ref t5,V.ref t6,V.ref t7,V.ref t8,V.ref t9,V.ref t10,V.ref t11,V.ref t12,V.ref t13,V.ref t14,V.ref t15,V.ref t16][i]? = some v->∃t nm b,v = .ref t/\(uL n)[i]? = some (nm,b)/\H35 t=some (.tup [.str nm,.bl b]):=λi v hv=>by
  match i,hv with
  | 0,hv=>cases hv;exact ⟨_,_,_,rfl,rfl,p0⟩
  | 1,hv=>cases hv;exact ⟨_,_,_,rfl,rfl,p1⟩
  | 2,hv=>cases hv;exact ⟨_,_,_,rfl,rfl,p2⟩
  | 3,hv=>cases hv;exact ⟨_,_,_,rfl,rfl,p3⟩
  | 4,hv=>cases hv;exact ⟨_,_,_,rfl,rfl,p4⟩
  | 5,hv=>cases hv;exact ⟨_,_,_,rfl,rfl,p5⟩
  | 6,hv=>cases hv;exact ⟨_,_,_,rfl,rfl,p6⟩
  | 7,hv=>cases hv;exact ⟨_,_,_,rfl,rfl,p7⟩
  | 8,hv=>cases hv;exact ⟨_,_,_,rfl,rfl,p8⟩
  | 9,hv=>cases hv;exact ⟨_,_,_,rfl,rfl,p9⟩
  | 10,hv=>cases hv;exact ⟨_,_,_,rfl,rfl,p10⟩
  | 11,hv=>cases hv;exact ⟨_,_,_,rfl,rfl,p11⟩
  | 12,hv=>cases hv;exact ⟨_,_,_,rfl,rfl,p12⟩
  | 13,hv=>cases hv;exact ⟨_,_,_,rfl,rfl,p13⟩
  | 14,hv=>cases hv;exact ⟨_,_,_,rfl,rfl,p14⟩
  | 15,hv=>cases hv;exact ⟨_,_,_,rfl,rfl,p15⟩
  | 16,hv=>cases hv;exact ⟨_,_,_,rfl,rfl,p16⟩
  | q+17,hv=>cases hv
 refine ⟨⟨_,SqL.of pl⟩,λacc hacc=>?_⟩
 refine qc (K:=K) (a:=m8) (acc:=acc) (xs:=[V.ref t0,V.ref t1,V.ref t2,V.ref t3,V.ref t4,V.ref t5,V.ref t6,V.ref t7,V.ref t8,V.ref t9,V.ref t10,V.ref t11,V.ref t12,V.ref t13,V.ref t14,V.ref t15,V.ref t16]) (λi σ H'=>∃x y:Option V,σ=[x,y]/\H' acc=some (.lst (yR (uL n) i))/\Ext acc H35 H') ?_ ?_ ?_ ?_
 ·exact ⟨none,none,rfl,j8,Ext.put⟩
 ·rintro i σ H' hi ⟨x,y,rfl,h3,e3⟩
  exact SqL.of (e3 _ _ pl (j4 pl hacc))
 ·rintro i v σ H' hv ⟨x,y,rfl,h3,e3⟩
  obtain ⟨t,nm,b,rfl,hw,ht⟩:=pr i v hv
  have kk:=Qu hw
  have hin:i<17:=(List.getElem?_eq_some_iff.mp hv).1
  have kl:=vh (uL n) i
  refine ⟨t,_,rfl,SqT.of (e3 _ _ ht (j4 ht hacc)),rfl,?_⟩
  cases b with
  | false =>
   rw [if_neg ar,aP] at kk
   refine ⟨_,_,rfl,_,_,rfl,rfl,_,rfl,_,rfl,?_⟩
   dsimp only
   rw [if_neg ar]
   exact ⟨_,_,rfl,by rw [kk];exact h3,e3⟩
  | true =>
   rw [if_pos rfl] at kk
   refine ⟨_,_,rfl,_,_,rfl,rfl,_,rfl,_,rfl,?_⟩
   dsimp only
   rw [if_pos rfl]
   refine ⟨_,rfl,_,h3,bI kl (by show i<16777216;omega),_,_,rfl,?_,e3.trans Ext.put⟩
   rw [j8,kk]
 ·rintro σ H' ⟨x,y,rfl,h3,e3⟩
  refine ⟨acc,_,rfl,SqL.of h3,λtt Ha na ha sa=>?_⟩
  have z:Ext acc H35 Ha:=e3.trans (Ext.of_same sa)
  refine ⟨tn,tt,_,_,rfl,rfl,z _ _ h35 (j4 h35 hacc),ha,by have:=vh (uL n) 17;show 1+(yR (uL n) 17).length<=16777216;omega,λtf Hb sb hb'=>?_⟩
  refine k tf Hb hb' λb o hb=>sb _ _ (z _ _ (all _ _ hb) (j4 (all _ _ hb) hacc))
theorem ScAt.frM {H H':Hp}{sd:Addr}{c:ScN}(S:ScAt H sd c) (f:FrM c.D H H'):ScAt H' sd c:=S.keep (N:=λ_=>False) (λc o h _=>f c o h) (λ_ _ _ z=>z) id S.nD id id id id (λ_ _=>id) id (λ_ _=>id)
theorem FrM.keepT {M:Addr->Prop}{H H':Hp}(f:FrM M H H'):jy H H':=λa xs h=>f.at h (by walk_at "w")
theorem FrM.no {M:Addr->Prop}{H H':Hp}{c:Addr}(f:FrM M H H') (n:H' c=none):H c=none:=by
 cases e:H c with
 | none=>rfl
 | some o =>
  rcases f c o e with h | ⟨_,_,_,_,h⟩
  ·rw [n] at h;cases h
  ·rw [n] at h;cases h
local macro_rules | `(tactic| walk_at "forks")=>`(tactic| (walk_at "r";first | (refine qo (fun _=>?_) (fun _=>?_) <;> walk_at "forks") | skip))
theorem wo:FnScope ["_law_row"] ["_law_row"] (j9 zr):=by walk_at "s"
theorem Qz {f:Addr}{fd:FuncData}(F:Fun K "_law_good_row" "_law_good_row" zr f fd):FnOk P w K mg base CX0 1 f fd ["_law_row"] kF:=by
 refine F.ok wo (λvs H Q E h=>?_) (λcdv A outer s H vs Q E hr h=>?_)
 ·obtain ⟨p,t,rfl,_⟩:=h
  rfl
 ·obtain ⟨p,⟨l,sn,u⟩,rfl,hp,k⟩:=h
  have hp:H p=some (.tup [.int l,.int sn,.int u]):=hp
  refine ⟨_,(jb (jj (zA (xr jS jS j6 (jk (jx K) (pv 0) j6 (λ_ _=>rfl)) j6) (zA (xr jS jS j6 (jk (jx K) (pv 0) j6 (λ_ _=>rfl)) j6) (yb (xr jS jS j6 (jk (jx K) (pv 0) j6 (λ_ _=>rfl)) j6)))))),?_⟩
  walk_at "forks"
  all_goals
   refine Eq.mp (congrArg (λz=>Q (V.bl z) H) ?_) k
   unfold good
   dsimp only at *
   first | (apply decide_eq_false;omega) | (apply decide_eq_decide.mpr;omega)
noncomputable def J5:Sp:=λvs H Q _=>∃(L b t:Addr) (r:T3),vs=[.ref b,.ref t]/\jC L H b/\H t=some (uT r)/\∀(t':Addr) (r':T3) (H':Hp),jC L H' b->Ext b H H'->H' t'=some (uT r')->Q (.ref t') H'
theorem yy:FnScope ["_law_box_here","_law_row","_law_at"] ["_law_box_here","_law_row"] (j9 zD):=by walk_at "s"
theorem QJ {f:Addr}{fd:FuncData}(nb:Nb2 mg) (c_law_take:Cal P w K mg base 2 "_law_take" ["_law_box_here","_law_size"] qU) (c_law_odd:Cal P w K mg base 3 "_law_odd" ["_law_box_here"] ZE)
  (F:Fun K "_law_bent_row" "_law_bent_row" zD f fd):FnOk P w K mg base CX0 4 f fd ["_law_box_here","_law_row"] J5:=by
 refine F.ok yy (λvs H Q E h=>?_) (λcdv A outer s H vs Q E hr h=>?_)
 ·obtain ⟨L,b,t,r,rfl,_⟩:=h
  rfl
 ·obtain ⟨L,b,t,r,rfl,B,ht,k⟩:=h
  have ht:H t=some (.tup [.int r.1,.int r.2.1,.int r.2.2]):=ht
  refine ⟨_,(j7 (jB (jn qh (je c_law_take (hr.mono ⋯) rfl (j2 (pv 0) (j2 j6 j5))) j6 (jt _)) (jb (jj (pv 1))) jr)
   (j7 (ju 2 yy.nd (je c_law_take (hr.mono ⋯) rfl (j2 (pv 0) (j2 j6 j5))))
   (jb (jj (jo ud (jo ud (QK (Qn K) (pv 1) Zn (ZH (pv 2))) (js (j2 (je c_law_odd (hr.mono ⋯) rfl (j2 (pv 0) j5)) j5))) (QK (Qn K) (pv 1) (ZH (jo qg (pv 2) j6)) Zn)))))),?_⟩
  left
  refine ⟨L,b,_,rfl,B,⟨⋯,⋯⟩,λv1 H1 a1 a2 B1 X1=>?_⟩
  left
  refine qo (λz=>?_) (λz=>?_)
  ·left
   exact k t r H1 B1 X1 (xK B X1 _ _ ht)
  ·left
   refine ⟨L,b,_,rfl,B1,⟨⋯,⋯⟩,λat_ H2 c1 c2 B2 X2=>?_⟩
   have ht2:=xK B1 X2 _ _ (xK B X1 _ _ ht)
   have X02:Ext b H H2:=X1.trans X2
   have hat:at_=0\/at_=1\/at_=2:=()
   rcases hat with rfl | rfl | rfl
   all_goals
    left
    refine ⟨t,_,rfl,SqT.of ht2,λq=>absurd q.2 (by first | (show ¬(0:Nat)=3;decide) | (show ¬(1:Nat)=3;decide) | (show ¬(2:Nat)=3;decide)),λt1 H3 n3 h3 s3=>?_⟩
    left
    refine ⟨L,b,rfl,B2.same s3,λz H4 B4 X4=>?_⟩
    have X34:=xK (B2.same s3) X4
    left
    refine ⟨by show 1<=sizeLine;decide,λt2 H5 n5 h5 s5=>?_⟩
    refine ⟨t1,t2,_,_,rfl,rfl,s5 _ _ (X34 _ _ h3),h5,by first | (show 1<=sizeLine;decide) | (show 2<=sizeLine;decide) | (show 3<=sizeLine;decide),λt3 H6 s6 h6=>?_⟩
    have ht6:=s6 _ _ (s5 _ _ (X34 _ _ (s3 _ _ ht2)))
    left
    refine ⟨t,_,rfl,SqT.of ht6,λq=>absurd q.1 (by first | (show ¬(1:Nat)=0;decide) | (show ¬(2:Nat)=0;decide) | (show ¬(3:Nat)=0;decide)),λt4 H7 n7 h7 s7=>?_⟩
    refine ⟨t3,t4,_,_,rfl,rfl,s7 _ _ h6,h7,by show 3<=sizeLine;decide,λt5 H8 s8 h8=>?_⟩
    have s48:jq H4 H8:=s5.trans (s6.trans (s7.trans s8))
    have X8:Ext b H H8:=λc o hc n=>s48 _ _ (X4 _ _ (s3 _ _ (X02 c o hc n)) n)
    first
     | exact k t5 (z,r.2.1,r.2.2) H8 (B4.same s48) X8 h8
     | exact k t5 (r.1,z,r.2.2) H8 (B4.same s48) X8 h8
     | exact k t5 (r.1,r.2.1,z) H8 (B4.same s48) X8 h8
theorem xn {b:Addr}{M:Addr->Prop}{H H':Hp}(X:Ext b H H'):Fr3 (λa=>a=b) M H H':=λc o h n=>.inl (X c o h n)
theorem XW {b:Addr}{M:Addr->Prop}{H H':Hp}(f:FrM M H H'):Fr3 (λa=>a=b) M H H':=λc o h _=>f c o h
theorem jP {N M:Addr->Prop}{H H1 H2:Hp}(f:Fr3 N M H H1) (g:Fr3 N M H1 H2):Fr3 N M H H2:=λc o h n=>by
 rcases f c o h n with h1 | ⟨m,ob,kvs,e,h1⟩
 ·exact g c o h1 n
 ·rcases g c _ h1 n with h2 | ⟨_,ob',kvs',e',_⟩
  ·exact .inr ⟨m,ob,kvs,e,h2⟩
  ·cases e'
theorem jC.frM {M:Addr->Prop}{L b:Addr}{H H':Hp}(B:jC L H b) (f:FrM M H H'):jC L H' b:=by
 obtain ⟨ns,a,r,c,d,h1,h2,h3,h4⟩:=B
 exact ⟨ns,a,r,c,d,f.at h1 (by walk_at "w"),h2,f.at h3 (by walk_at "w"),h4⟩
theorem G1 {j:Int}(h0:0<=j) (h1:j<4):UV j 3:=by
 have:j=0\/j=1\/j=2\/j=3:=()
 rcases this with rfl | rfl | rfl | rfl <;> (unfold UV;decide)
inductive DeedD where
 | tell (y:Int) (r:T3) (t:Addr)
 | plain (y:Int)
 | surge (l y m:Int)
 | calm (l y:Int)
 | turn (ts:List T3)
noncomputable def xG (H:Hp) (a:Addr):DeedD->Prop
 | .tell y r t=>H a=some (.tup [.str "tell",.int y,.ref t])/\H t=some (uT r)
 | .plain y=>H a=some (.tup [.str "plain",.int y])
 | .surge l y m=>H a=some (.tup [.str "surge",.int l,.int y,.int m])
 | .calm l y=>H a=some (.tup [.str "calm",.int l,.int y])
 | .turn ts=>∃q xs,H a=some (.tup [.str "turn",.ref q])/\H q=some (.lst xs)/\jQ H xs ts/\1<=ts.length/\ts.length<=12
noncomputable def V9:Sp:=λvs H Q _=>∃(L b sd:Addr) (c:ScN),vs=[.ref b,.ref sd]/\jC L H b/\ScAt H sd c/\ScOk b c/\1<=c.ws.length/\c.ws.length<=6/\c.sk.length<=900/\(∀x∈c.lds,x.2.length<=900) /\
 ∀(a:Addr) (d:DeedD) (H':Hp),H a=none->xG H' a d->jC L H' b->ScAt H' sd c->Fr3 (λa=>a=b) c.D H H'->Q (.ref a) H'
theorem jR:FnScope ["_law_box_here","_law_scene_here","_law_lane","_law_year_here","_law_kind","_law_known"] ["_law_box_here","_law_scene_here"] (j9 qH):=by walk_at "s"
theorem JP {f:Addr}{fd:FuncData}(nb:Nb2 mg) (c_law_take:Cal P w K mg base 2 "_law_take" ["_law_box_here","_law_size"] qU) (c_law_odd:Cal P w K mg base 3 "_law_odd" ["_law_box_here"] ZE) (c_law_year:Cal P w K mg base 3 "_law_year" ["_law_box_here"] XX) (c_law_weather:Cal P w K mg base 3 "_law_weather" ["_law_box_here"] ve) (c_law_round:Cal P w K mg base 4 "_law_round" ["_law_box_here"] yV) (c_law_bent_row:Cal P w K mg base 4 "_law_bent_row" ["_law_box_here","_law_row"] J5)
  (F:Fun K "_law_ice_deed" "_law_ice_deed" qH f fd):FnOk P w K mg base CX0 5 f fd ["_law_box_here","_law_scene_here"] V9:=by
 refine F.ok jR (λvs H Q E h=>?_) (λcdv A outer s H vs Q E hr h=>?_)
 ·obtain ⟨L,b,sd,c,rfl,_⟩:=h
  rfl
 ·obtain ⟨L,b,sd,c,rfl,B,S,O,hw1,hw6,sk9,ld9,k⟩:=h
  have hzl:c.zs.length=c.ws.length:=(aX S.gi).trans (af _)
  have hgd:∀{H':Hp},ScAt H' sd c->qr H' sd (.str "grounds") (some (.ref c.gl)):=λS'=>by rw [<- xh c.p c.q c.sg c.gl c.ll];exact qr.k (k:=.inr "grounds") S'.sd
  have hsg:∀{H':Hp},ScAt H' sd c->qr H' sd (.str "single") (some (.ref c.sg)):=λS'=>by rw [<- xF c.p c.q c.sg c.gl c.ll];exact qr.k (k:=.inr "single") S'.sd
  have hlp:∀{H':Hp},ScAt H' sd c->qr H' sd (.str "leaps") (some (.ref c.ll)):=λS'=>by rw [<- za c.p c.q c.sg c.gl c.ll];exact qr.k (k:=.inr "leaps") S'.sd
  refine ⟨_,(j7 (ju 2 jR.nd (je c_law_take (hr.mono ⋯) rfl (j2 (pv 0) (j2 (jd (jg K) rfl nb.b_len aR (j2 (jA (jJ hr) (pv 1) jc (λ_ _=>rfl)) j5)) j5))))
   (j7 (ju 3 jR.nd (jk (jf K) (jz (j2 (je c_law_year (hr.mono ⋯) rfl (j2 (pv 0) j5)) (j2 (je c_law_year (hr.mono ⋯) rfl (j2 (pv 0) j5)) (j2 (je c_law_odd (hr.mono ⋯) rfl (j2 (pv 0) j5)) j5)))) (je c_law_take (hr.mono ⋯) rfl (j2 (pv 0) (j2 j6 j5))) (λ_ _=>rfl)))
   (j7 (ju 4 jR.nd (jk (jf K) (jz (j2 jc (j2 jc (j2 jc (j2 jc (j2 jc j5)))))) (je c_law_take (hr.mono ⋯) rfl (j2 (pv 0) (j2 j6 j5))) (λ_ _=>rfl)))
   (j7 (ww (j:=5) (osc:=(j9 qH)) (ON:=["_law_box_here","_law_scene_here","_law_lane","_law_year_here","_law_kind","_law_known"]) (N:=["_law_one"]) (own:=1) (caps:=[]) ⟨rfl,∅,∅,∅,rfl,∅⟩ jR.nd rfl (bb rfl) rfl rfl rfl (wE (jA (jJ hr) (pv 1) jc (λ_ _=>rfl))) (λ_ _ _ _ _=>(ji (i:=0) (show aZ (["_law_one"]:List Str) by decide +kernel) rfl (bb rfl))) (λ_ _ _ _ _=>jH) (λ_ _ _ _ _=>(pv 0)))
   (qW (jB (PW.pt (zU (jn qh (pv 4) jc (jt _)) (zU (jn QS (jd (jg K) rfl nb.b_len aR (j2 (pv 5) j5)) j6 (jt _)) (zK (jn QS (je c_law_take (hr.mono ⋯) rfl (j2 (pv 0) (j2 j6 j5))) j6 (jt _)))))) (jb (ju 3 jR.nd (jk (jf K) (pv 5) (je c_law_take (hr.mono ⋯) rfl (j2 (pv 0) (j2 (jd (jg K) rfl nb.b_len aR (j2 (pv 5) j5)) j5))) (λ_ _=>rfl)))) jr)
   (j7 (ww (j:=5) (osc:=(j9 qH)) (ON:=["_law_box_here","_law_scene_here","_law_lane","_law_year_here","_law_kind","_law_known"]) (N:=["_law_one"]) (own:=1) (caps:=[]) ⟨rfl,∅,∅,∅,rfl,∅⟩ jR.nd rfl (bb rfl) rfl rfl rfl (wE (jk (jf K) (jA (jJ hr) (pv 1) jc (λ_ _=>rfl)) (pv 2) (λ_ _=>rfl))) (λ_ _ _ _ _=>(ji (i:=0) (show aZ (["_law_one"]:List Str) by decide +kernel) rfl (bb rfl))) (λ_ _ _ _ _=>jH) (λ_ _ _ _ _=>(pv 0)))
   (qW (jB (PW.pt (zU (jn qh (pv 4) jc (jt _)) (zU (jn QS (jd (jg K) rfl nb.b_len aR (j2 (pv 5) j5)) j6 (jt _)) (zK (jn QS (je c_law_take (hr.mono ⋯) rfl (j2 (pv 0) (j2 j6 j5))) j6 (jt _)))))) (jb (ju 3 jR.nd (jk (jf K) (pv 5) (je c_law_take (hr.mono ⋯) rfl (j2 (pv 0) (j2 (jd (jg K) rfl nb.b_len aR (j2 (pv 5) j5)) j5))) (λ_ _=>rfl)))) jr)
   (qW (jB (jn qh (je c_law_take (hr.mono ⋯) rfl (j2 (pv 0) (j2 j6 j5))) j6 (jt _)) (jb (ju 2 jR.nd (jk (jf K) (jz (j2 (jo xo j6 j6) (j2 (jd (jg K) rfl nb.b_len aR (j2 (jA (jJ hr) (pv 1) jc (λ_ _=>rfl)) j5)) j5))) (je c_law_take (hr.mono ⋯) rfl (j2 (pv 0) (j2 j6 j5))) (λ_ _=>rfl)))) jr)
   (j7 (jB (jn qh (pv 4) jc (jt _)) (jb (jj (js (j2 (pv 4) (j2 (pv 3) (j2 (je c_law_bent_row (hr.mono ⋯) rfl (j2 (pv 0) (j2 (je c_law_weather (hr.mono ⋯) rfl (j2 (pv 0) j5)) j5))) j5)))))) jr)
   (j7 (jB (jn qh (pv 4) jc (jt _)) (jb (jj (js (j2 (pv 4) (j2 (pv 3) j5))))) jr)
   (j7 (jB (jn qh (pv 4) jc (jt _)) (jb (jj (js (j2 (pv 4) (j2 (pv 2) (j2 (pv 3) (j2 (jk (jf K) (jz (j2 (jo qg j6 (je c_law_take (hr.mono ⋯) rfl (j2 (pv 0) (j2 j6 j5)))) (j2 (je c_law_odd (hr.mono ⋯) rfl (j2 (pv 0) j5)) j5))) (jo VE (je c_law_take (hr.mono ⋯) rfl (j2 (pv 0) (j2 j6 j5))) j6) (λ_ _=>rfl)) j5))))))) jr)
   (j7 (jB (jn qh (pv 4) jc (jt _)) (jb (jj (js (j2 (pv 4) (j2 (pv 2) (j2 (pv 3) j5)))))) jr)
   (jb (jj (js (j2 (pv 4) (j2 (jW (osc:=(j9 qH)) (ON:=["_law_box_here","_law_scene_here","_law_lane","_law_year_here","_law_kind","_law_known"]) (N:=["_law_row","_law_box_here"]) (own:=1) (caps:=[0]) ⟨rfl,∅,∅,∅,rfl,∅⟩ rfl rfl rfl (qm K (je c_law_round (hr.mono ⋯) rfl (j2 (pv 0) j5))) (λ_ _ _ _ _=>(ji (i:=0) (show aZ (["_law_row","_law_box_here"]:List Str) by decide +kernel) rfl (bb rfl))) (λ_ _ _ _ _=>jH) (λ_ _ _ _ _=>(je c_law_bent_row (hr.mono ⋯) rfl (j2 (pv 1) (j2 (pv 0) j5))))) j5))))))))))))))))),?_⟩
  left
  refine ⟨sd,.ref c.gl,rfl,hgd S,?_⟩
  left
  refine ⟨c.gl,_,rfl,.inl (SqL.of S.gl),?_⟩
  rw [hzl]
  left
  refine ⟨L,b,_,rfl,B,⟨(),()⟩,λln H1 ln0 ln1 B1 X1=>?_⟩
  have S1:=S.ext O B X1
  left
  refine ⟨L,b,rfl,B1,λy1 H2 _ _ B2 X2=>?_⟩
  left
  refine ⟨L,b,rfl,B2,λy2 H3 _ _ B3 X3=>?_⟩
  left
  refine ⟨L,b,rfl,B3,λy3 H4 B4 X4=>?_⟩
  have S4:=((S1.ext O B1 X2).ext O B2 X3).ext O B3 X4
  have X04:Ext b H H4:=X1.trans (X2.trans (X3.trans X4))
  clear X1 X2 X3 X4 S1 B1 B2 B3
  left
  refine ⟨by show 3<=sizeLine;decide,λl5 H5 n5 h5 s5=>?_⟩
  have l5b:=B4.ne n5
  left
  refine ⟨L,b,_,rfl,B4.same s5,⟨⋯,⋯⟩,λpk H6 pk0 pk1 B6 X6=>?_⟩
  have S6:=(S4.same s5).ext O (B4.same s5) X6
  have X06:Ext b H H6:=λa u h n=>X6 _ _ (s5 _ _ (X04 a u h n)) n
  obtain ⟨y,hy⟩:∃y,atI [V.int y1,V.int y2,V.int y3] pk=some (V.int y):=by
   have:pk=0\/pk=1\/pk=2:=()
   rcases this with rfl | rfl | rfl
   ·exact ⟨y1,rfl⟩
   ·exact ⟨y2,rfl⟩
   ·exact ⟨y3,rfl⟩
  left
  refine ⟨_,_,_,_,rfl,rfl,SqL.of (X6 _ _ h5 l5b),hy,?_⟩
  clear B4 S4 X04 hy h5 n5 s5 l5b X6
  left
  refine ⟨by show 5<=sizeLine;decide,λl7 H7 n7 h7 s7=>?_⟩
  have l7b:=B6.ne n7
  left
  refine ⟨L,b,_,rfl,B6.same s7,⟨⋯,⋯⟩,λkd H8 kd0 kd1 B8 X8=>?_⟩
  have S8:=(S6.same s7).ext O (B6.same s7) X8
  have X08:Ext b H H8:=λa u h n=>X8 _ _ (s7 _ _ (X06 a u h n)) n
  obtain ⟨ks,hks,hkk⟩:∃ks:Str,atI [V.str "tell",V.str "plain",V.str "surge",V.str "calm",V.str "turn"] kd=some (V.str ks)/\(ks = "tell" \/ ks = "plain" \/ ks = "surge" \/ ks = "calm" \/ ks = "turn"):=by
   have:kd=0\/kd=1\/kd=2\/kd=3\/kd=4:=()
   rcases this with rfl | rfl | rfl | rfl | rfl
   ·exact ⟨_,rfl,.inl rfl⟩
   ·exact ⟨_,rfl,.inr (.inl rfl)⟩
   ·exact ⟨_,rfl,.inr (.inr (.inl rfl))⟩
   ·exact ⟨_,rfl,.inr (.inr (.inr (.inl rfl)))⟩
   ·exact ⟨_,rfl,.inr (.inr (.inr (.inr rfl)))⟩
  left
  refine ⟨_,_,_,_,rfl,rfl,SqL.of (X8 _ _ h7 l7b),hks,?_⟩
  clear B6 S6 X06 hks h7 n7 s7 l7b X8
  left
  refine ⟨sd,.ref c.sg,rfl,hsg S8,?_⟩
  left
  refine ⟨c.sg,c.sk.map kvA,rfl,S8.sg,λo H9 f9 acc hacc=>?_⟩
  have fr9:FrM c.D H8 H9:=Xq f9 (.inl rfl)
  have hsg9:=f9.1
  have nacc:c.sg≠acc:=j4 hsg9 hacc
  refine vf (a:=c.sg) (o:=o) (kvs:=c.sk.map kvA) (acc:=acc) (λi σ H10=>∃x:Option V,σ=[x]/\H10 acc=some (.lst (((c.sk.map (·.1)).take i).map V.int))/\Ext acc H9 H10) ?_ ?_ ?_ ?_
  ·exact ⟨none,rfl,j8,Ext.put⟩
  ·rintro i σ H10 hi ⟨x,rfl,h10,e10⟩
   exact e10 _ _ hsg9 nacc
  ·rintro i q σ H10 hq ⟨x,rfl,h10,e10⟩
   rw [aq] at hq
   obtain ⟨z,hz,rfl⟩:=Option.map_eq_some_iff.mp hq
   have hi:=(List.getElem?_eq_some_iff.mp hz).1
   left
   refine ⟨_,h10,by rw [af,aT];exact jh (),_,rfl,?_,e10.trans Ext.put⟩
   rw [j8,bE,aq,hz,aC]
   rfl
  rintro σ H10 ⟨x,rfl,h10,e10⟩
  rw [af,cg (by rw [af];exact av _)] at h10
  have fr10:FrM c.D H8 H10:=fr9.trans (FrM.of_same λc o hc=>e10 c o hc (j4 hc hacc))
  have B10:jC L H10 b:=jC.frM B8 fr10
  have S10:=S8.frM fr10
  have F10:Fr3 (λa=>a=b) c.D H H10:=jP (xn X08) (XW fr10)
  have accb:acc≠b:=B8.ne (fr9.no hacc)
  generalize hns:c.sk.map (·.1)=ns at *
  have hnl:ns.length<=900:=by rw [<- hns,af];exact sk9
  clear fr9 hsg9 nacc e10 f9 hacc fr10 X08 B8 S8
  left
  refine ⟨λσ H'=>∃(y:Int) (x5:Option V),σ=[some (.ref b),some (.ref sd),some (.int ln),some (.int y),some (.str ks),x5]/\jC L H' b/\ScAt H' sd c/\Fr3 (λa=>a=b) c.D H H',?_,?_⟩
  ·have fin:∃(y':Int) (x5:Option V),[some (V.ref b),some (.ref sd),some (.int ln),some (.int y),some (.str ks),some (.ref acc)]=[some (.ref b),some (.ref sd),some (.int ln),some (.int y'),some (.str ks),x5]/\jC L H10 b/\ScAt H10 sd c/\Fr3 (λa=>a=b) c.D H H10:=⟨y,_,rfl,B10,S10,F10⟩
   left
   refine qo (λ_=>?_) (λ_=>fin)
   left
   refine ⟨acc,_,rfl,.inl (SqL.of h10),?_⟩
   left
   rw [af]
   refine qo (λz=>?_) (λ_=>fin)
   left
   refine ⟨L,b,_,rfl,B10,⟨⋯,⋯⟩,λv H11 _ _ B11 X11=>?_⟩
   have S11:=S10.ext O B10 X11
   have F11:=jP F10 (xn X11)
   have h11:=X11 _ _ h10 accb
   have fin2:∃(y':Int) (x5:Option V),[some (V.ref b),some (.ref sd),some (.int ln),some (.int y),some (.str ks),some (.ref acc)]=[some (.ref b),some (.ref sd),some (.int ln),some (.int y'),some (.str ks),x5]/\jC L H11 b/\ScAt H11 sd c/\Fr3 (λa=>a=b) c.D H H11:=⟨y,_,rfl,B11,S11,F11⟩
   left
   refine qo (λ_=>?_) (λ_=>fin2)
   left
   refine ⟨acc,_,rfl,.inl (SqL.of h11),?_⟩
   rw [af]
   left
   refine ⟨L,b,_,rfl,B11,⟨(),iR (show (ns.length:Int)<=900 by omega) ⋯⟩,λj H12 j0 j1 B12 X12=>?_⟩
   obtain ⟨y',hy'⟩:∃y',ns[j.toNat]? = some y':=⟨_,ag ()⟩
   left
   refine ⟨_,_,_,_,rfl,rfl,SqL.of (X12 _ _ h11 accb),qG (v:=V.int y') j0 (by rw [aq,hy'];rfl),?_⟩
   exact ⟨y',_,rfl,B12,S11.ext O B11 X12,jP F11 (xn X12)⟩
  clear h10 B10 S10 F10 accb hns hnl
  rintro σ H10 ⟨y,x5,rfl,B10,S10,F10⟩
  have hzl2:c.lds.length=c.ws.length:=O.ldl
  obtain ⟨xl,hxl⟩:∃xl,c.lds[ln.toNat]? = some xl:=⟨_,ag ()⟩
  have hxm:=au hxl
  left
  refine ⟨sd,.ref c.ll,rfl,hlp S10,?_⟩
  left
  refine ⟨_,_,_,_,rfl,rfl,SqL.of S10.ll,qG (v:=V.ref xl.1) ln0 (by rw [aq,hxl];rfl),?_⟩
  left
  refine ⟨xl.1,xl.2.map kvI,rfl,S10.ld _ hxm,λo H11 f11 acc hacc=>?_⟩
  have fr11:FrM c.D H10 H11:=Xq f11 (.inr ⟨xl,hxm,rfl⟩)
  have hsg11:=f11.1
  have nacc:xl.1≠acc:=j4 hsg11 hacc
  have hx9:=ld9 _ hxm
  refine vf (a:=xl.1) (o:=o) (kvs:=xl.2.map kvI) (acc:=acc) (λi σ H12=>∃x:Option V,σ=[x]/\H12 acc=some (.lst (((xl.2.map (·.1)).take i).map V.int))/\Ext acc H11 H12) ?_ ?_ ?_ ?_
  ·exact ⟨none,rfl,j8,Ext.put⟩
  ·rintro i σ H12 hi ⟨x,rfl,h12,e12⟩
   exact e12 _ _ hsg11 nacc
  ·rintro i q σ H12 hq ⟨x,rfl,h12,e12⟩
   rw [aq] at hq
   obtain ⟨z,hz,rfl⟩:=Option.map_eq_some_iff.mp hq
   have hi:=(List.getElem?_eq_some_iff.mp hz).1
   left
   refine ⟨_,h12,by rw [af,aT];exact jh (),_,rfl,?_,e12.trans Ext.put⟩
   rw [j8,bE,aq,hz,aC]
   rfl
  rintro σ H12 ⟨x,rfl,h10,e12⟩
  rw [af,cg (by rw [af];exact av _)] at h10
  have fr12:FrM c.D H10 H12:=fr11.trans (FrM.of_same λc o hc=>e12 c o hc (j4 hc hacc))
  have accb:acc≠b:=B10.ne (fr11.no hacc)
  have B10:jC L H12 b:=jC.frM B10 fr12
  have S10:=S10.frM fr12
  have F10:Fr3 (λa=>a=b) c.D H H12:=jP F10 (XW fr12)
  generalize hns:xl.2.map (·.1)=ns at *
  have hnl:ns.length<=900:=by rw [<- hns,af];exact hx9
  clear fr11 hsg11 nacc e12 f11 hacc fr12
  left
  refine ⟨λσ H'=>∃(y:Int) (x5:Option V),σ=[some (.ref b),some (.ref sd),some (.int ln),some (.int y),some (.str ks),x5]/\jC L H' b/\ScAt H' sd c/\Fr3 (λa=>a=b) c.D H H',?_,?_⟩
  ·have fin:∃(y':Int) (x5:Option V),[some (V.ref b),some (.ref sd),some (.int ln),some (.int y),some (.str ks),some (.ref acc)]=[some (.ref b),some (.ref sd),some (.int ln),some (.int y'),some (.str ks),x5]/\jC L H12 b/\ScAt H12 sd c/\Fr3 (λa=>a=b) c.D H H12:=⟨y,_,rfl,B10,S10,F10⟩
   left
   refine qo (λ_=>?_) (λ_=>fin)
   left
   refine ⟨acc,_,rfl,.inl (SqL.of h10),?_⟩
   left
   rw [af]
   refine qo (λz=>?_) (λ_=>fin)
   left
   refine ⟨L,b,_,rfl,B10,⟨⋯,⋯⟩,λv H13 _ _ B11 X13=>?_⟩
   have S11:=S10.ext O B10 X13
   have F11:=jP F10 (xn X13)
   have h11:=X13 _ _ h10 accb
   have fin2:∃(y':Int) (x5:Option V),[some (V.ref b),some (.ref sd),some (.int ln),some (.int y),some (.str ks),some (.ref acc)]=[some (.ref b),some (.ref sd),some (.int ln),some (.int y'),some (.str ks),x5]/\jC L H13 b/\ScAt H13 sd c/\Fr3 (λa=>a=b) c.D H H13:=⟨y,_,rfl,B11,S11,F11⟩
   left
   refine qo (λ_=>?_) (λ_=>fin2)
   left
   refine ⟨acc,_,rfl,.inl (SqL.of h11),?_⟩
   rw [af]
   left
   refine ⟨L,b,_,rfl,B11,⟨(),iR (show (ns.length:Int)<=900 by omega) ⋯⟩,λj H14 j0 j1 B14 X14=>?_⟩
   obtain ⟨y',hy'⟩:∃y',ns[j.toNat]? = some y':=⟨_,ag ()⟩
   left
   refine ⟨_,_,_,_,rfl,rfl,SqL.of (X14 _ _ h11 accb),qG (v:=V.int y') j0 (by rw [aq,hy'];rfl),?_⟩
   exact ⟨y',_,rfl,B14,S11.ext O B11 X14,jP F11 (xn X14)⟩
  clear h10 B10 S10 F10 accb hns hnl
  rintro σ H12 ⟨y,x5,rfl,B12,S12,F12⟩
  left
  refine ⟨λσ H'=>∃(l:Int),σ=[some (.ref b),some (.ref sd),some (.int l),some (.int y),some (.str ks),x5]/\jC L H' b/\ScAt H' sd c/\Fr3 (λa=>a=b) c.D H H',?_,?_⟩
  ·left
   refine ⟨L,b,_,rfl,B12,⟨⋯,⋯⟩,λv H13 _ _ B13 X13=>?_⟩
   have S13:=S12.ext O B12 X13
   have F13:=jP F12 (xn X13)
   have fin:∃l:Int,[some (V.ref b),some (.ref sd),some (.int ln),some (.int y),some (.str ks),x5]=[some (.ref b),some (.ref sd),some (.int l),some (.int y),some (.str ks),x5]/\jC L H13 b/\ScAt H13 sd c/\Fr3 (λa=>a=b) c.D H H13:=⟨ln,rfl,B13,S13,F13⟩
   left
   refine qo (λ_=>?_) (λ_=>fin)
   left
   refine ⟨sd,.ref c.gl,rfl,hgd S13,?_⟩
   left
   refine ⟨c.gl,_,rfl,.inl (SqL.of S13.gl),?_⟩
   left
   refine ⟨by show 2<=sizeLine;decide,λl14 H14 n14 h14 s14=>?_⟩
   left
   refine ⟨L,b,_,rfl,B13.same s14,⟨⋯,⋯⟩,λj H15 j0 j1 B15 X15=>?_⟩
   obtain ⟨l,hl⟩:∃l,atI [V.int (0-1),V.int (c.zs.length:Int)] j=some (V.int l):=by
    have:j=0\/j=1:=()
    rcases this with rfl | rfl
    ·exact ⟨_,rfl⟩
    ·exact ⟨_,rfl⟩
   left
   refine ⟨_,_,_,_,rfl,rfl,SqL.of (X15 _ _ h14 (B13.ne n14)),hl,?_⟩
   exact ⟨l,rfl,B15,(S13.same s14).ext O (B13.same s14) X15,jP F13 (jP (XW (FrM.of_same s14)) (xn X15))⟩
  rintro σ H13 ⟨l,rfl,B13,S13,F13⟩
  have noH:∀{a:Addr} {H':Hp},Fr3 (λa=>a=b) c.D H H'->jC L H' b->H' a=none->H a=none:=λ{a H'} f B' n=>by
   cases e:H a with
   | none=>rfl
   | some u=>rcases f a u e (B'.ne n) with h | ⟨_,ob,kvs,_,h⟩ <;> (rw [n] at h;cases h)
  have fsame:∀{H1 H2:Hp},jq H1 H2->Fr3 (λa=>a=b) c.D H1 H2:=λs c o h _=>.inl (s _ _ h)
  clear B12 S12 F12
  rcases hkk with rfl | rfl | rfl | rfl | rfl
  ·left
   refine ⟨L,b,rfl,B13,λt H14 r B14 X14 ht _=>?_⟩
   left
   refine ⟨L,b,t,r,rfl,B14,ht,λt' r' H15 B15 X15 ht'=>?_⟩
   left
   refine ⟨by show 3<=sizeLine;decide,λa H16 n16 h16 s16=>?_⟩
   have F15:=jP F13 (jP (xn X14) (xn X15))
   exact k a (.tell y r' t') H16 (noH F15 B15 n16) ⟨h16,s16 _ _ ht'⟩ (B15.same s16) (((S13.ext O B13 X14).ext O B14 X15).same s16) (jP F15 (fsame s16))
  ·left
   refine ⟨by show 2<=sizeLine;decide,λa H16 n16 h16 s16=>?_⟩
   exact k a (.plain y) H16 (noH F13 B13 n16) h16 (B13.same s16) (S13.same s16) (jP F13 (fsame s16))
  ·left
   refine ⟨L,b,_,rfl,B13,⟨⋯,⋯⟩,λm1 H14 _ _ B14 X14=>?_⟩
   left
   refine ⟨L,b,rfl,B14,λm2 H15 B15 X15=>?_⟩
   left
   refine ⟨by show 2<=sizeLine;decide,λl16 H16 n16 h16 s16=>?_⟩
   have l16b:=B15.ne n16
   left
   refine ⟨L,b,_,rfl,B15.same s16,⟨⋯,⋯⟩,λj H17 j0 j1 B17 X17=>?_⟩
   obtain ⟨m,hm⟩:∃m,atI [V.int (1+m1),V.int m2] (j / 3)=some (V.int m):=by
    have:j / 3=0\/j / 3=1:=()
    rcases this with e | e <;> rw [e]
    ·exact ⟨_,rfl⟩
    ·exact ⟨_,rfl⟩
   have F17:=jP F13 (jP (xn X14) (jP (xn X15) (jP (fsame s16) (xn X17))))
   have S17:=(((S13.ext O B13 X14).ext O B14 X15).same s16).ext O (B15.same s16) X17
   left
   refine ⟨G1 j0 j1,?_⟩
   refine ⟨_,_,_,_,rfl,rfl,SqL.of (X17 _ _ h16 l16b),hm,?_⟩
   left
   refine ⟨by show 4<=sizeLine;decide,λa H18 n18 h18 s18=>?_⟩
   exact k a (.surge l y m) H18 (noH F17 B17 n18) h18 (B17.same s18) (S17.same s18) (jP F17 (fsame s18))
  ·left
   refine ⟨by show 3<=sizeLine;decide,λa H16 n16 h16 s16=>?_⟩
   exact k a (.calm l y) H16 (noH F13 B13 n16) h16 (B13.same s16) (S13.same s16) (jP F13 (fsame s16))
  ·left
   refine ⟨L,b,rfl,B13,λq H14 xs ts B14 X14 hq hq14 r14 hl hg=>?_⟩
   left
   refine ⟨⟨_,SqL.of hq14⟩,λacc hacc=>?_⟩
   have na1:=B14.ne hacc
   have na2:=B14.neL hacc
   have qb:q≠b:=B13.ne hq
   have hxl:xs.length=ts.length:=aX r14
   refine qc (K:=K) (a:=q) (xs:=xs) (acc:=acc) (λi σ H15=>∃(x:Option V) (vs:List V) (us:List T3),σ=[x,some (.ref b)]/\jC L H15 b/\H15 acc=some (.lst vs)/\jQ H15 vs us/\us.length=i/\∀a u,H14 a=some u->a≠b->H15 a=some u) ?_ ?_ ?_ ?_
   ·exact ⟨none,[],[],rfl,B14.put na1 na2,j8,.nil,rfl,λa u h _=>by rw [ja (j4 h hacc)];exact h⟩
   ·rintro i σ H15 hi ⟨x,vs,us,rfl,B15,h15,r15,l15,e15⟩
    exact SqL.of (e15 _ _ hq14 qb)
   ·rintro i v σ H15 hv ⟨x,vs,us,rfl,B15,h15,r15,l15,e15⟩
    obtain ⟨tt,htt,bt,rfl,hbt⟩:=jQ.get r14 hv
    have hi:=(List.getElem?_eq_some_iff.mp hv).1
    have vl:vs.length=us.length:=aX r15
    have hbt15:H15 bt=some (uT tt):=e15 _ _ hbt (λz=>by
     obtain ⟨ns',a1,r1,c1,d1,h1,_⟩:=B14
     rw [<- z,hbt] at h1
     cases h1)
    left
    refine ⟨L,b,bt,tt,rfl,B15,hbt15,λt' r' H16 B16 X16 ht'=>?_⟩
    have kt:=xK B15 X16
    have h16:=X16 _ _ h15 na1
    refine ⟨_,h16,jh (),_,vs++[.ref t'],us++[r'],rfl,B16.put na1 na2,j8,?_,by rw [az,l15];rfl,λa u h n=>by rw [ja (j4 h hacc)];exact X16 _ _ (e15 a u h n) n⟩
    exact dh (jQ.imp (jQ.imp r15 λ_ _ h=>kt _ _ h) λ_ _ h=>by rw [ja (jp h h16 (by walk_at "z"))];exact h) ⟨t',rfl,by rw [ja (jp ht' h16 (by walk_at "z"))];exact ht'⟩
   rintro σ H15 ⟨x,vs,us,rfl,B15,h15,r15,l15,e15⟩
   have X15:Ext b H14 H15:=λa u h n=>e15 a u h n
   have F15:=jP F13 (jP (xn X14) (xn X15))
   have S15:=(S13.ext O B13 X14).ext O B14 X15
   left
   refine ⟨by show 2<=sizeLine;decide,λa H16 n16 h16 s16=>?_⟩
   exact k a (.turn us) H16 (noH F15 B15 n16) ⟨acc,vs,h16,s16 _ _ h15,jQ.imp r15 λ_ _ h=>s16 _ _ h,(),()⟩ (B15.same s16) (S15.same s16) (jP F15 (fsame s16))
theorem wJ (l:List (Int×Addr)) (y:Int):(qx (l.map kvA) (.inl y)).isSome=decide (y∈l.map (·.1)):=by
 rw [<- yC,d7,pz,decide_eq_true_eq]
 constructor
 ·rintro ⟨kv,hk,e⟩
  obtain ⟨z,hz,rfl⟩:=List.mem_map.mp hk
  exact List.mem_map.mpr ⟨z,hz,eM (of_decide_eq_true e)⟩
 ·intro h
  obtain ⟨z,hz,rfl⟩:=List.mem_map.mp h
  exact ⟨_,List.mem_map.mpr ⟨z,hz,rfl⟩,decide_eq_true rfl⟩
theorem kG (l:List (Int×Int)) (y:Int):(qx (l.map kvI) (.inl y)).isSome=decide (y∈l.map (·.1)):=by
 rw [<- yC,d7,pz,decide_eq_true_eq]
 constructor
 ·rintro ⟨kv,hk,e⟩
  obtain ⟨z,hz,rfl⟩:=List.mem_map.mp hk
  exact List.mem_map.mpr ⟨z,hz,eM (of_decide_eq_true e)⟩
 ·intro h
  obtain ⟨z,hz,rfl⟩:=List.mem_map.mp h
  exact ⟨_,List.mem_map.mpr ⟨z,hz,rfl⟩,decide_eq_true rfl⟩
noncomputable def vo (c:ScN):DeedD->Option Str
 | .turn ts=>if ts.all good=true then none else some "BadRound"
 | .tell y r _=>if 0<=y/\y<=99 then (if good r=true then none else some "BadWeather") else some "BadYear"
 | .plain y=>if 0<=y/\y<=99 then (if y∈c.sk.map (·.1) then none else some "NotTold") else some "BadYear"
 | .surge l y m=>if 0<=l/\l<(c.ws.length:Int) then (if 0<=y/\y<=99 then (if 1<=m/\m<=9 then none else some "BadSurge") else some "BadYear") else some "NoLane"
 | .calm l y=>if 0<=l/\l<(c.ws.length:Int) then (if 0<=y/\y<=99 then (if y∈(c.lds.getD l.toNat (0,[])).2.map (·.1) then none else some "NotTold") else some "BadYear") else some "NoLane"
noncomputable def YA:Sp:=λvs H Q _=>∃(sd a:Addr) (c:ScN) (d:DeedD),vs=[.ref sd,.ref a]/\ScAt H sd c/\c.lds.length=c.ws.length/\xG H a d /\
 (vo c d=none->∀H',jq H H'->Q .non H')/\∀w,vo c d=some w->∀t H',H' t=some (.tup [.str "no",.str w])->jq H H'->Q (.ref t) H'
theorem zx:FnScope ["_law_scene_here","_law_deed","_law_kind","_law_year_here"] ["_law_scene_here","_law_deed"] (j9 xM):=by walk_at "s"
theorem XV {f:Addr}{fd:FuncData}(nb:Nb2 mg) (c_law_good_row:Cal P w K mg base 1 "_law_good_row" ["_law_row"] kF)
  (F:Fun K "_law_ice_due" "_law_ice_due" xM f fd):FnOk P w K mg base CX0 2 f fd ["_law_scene_here","_law_deed"] YA:=by
 refine F.ok zx (λvs H Q E h=>?_) (λcdv A outer s H vs Q E hr h=>?_)
 ·obtain ⟨sd,a,c,d,rfl,_⟩:=h
  rfl
 ·obtain ⟨sd,a,c,d,rfl,S,hld,D,kn,kw⟩:=h
  have hzl:c.zs.length=c.ws.length:=(aX S.gi).trans (af _)
  have hgd:∀{H':Hp},ScAt H' sd c->qr H' sd (.str "grounds") (some (.ref c.gl)):=λS'=>by rw [<- xh c.p c.q c.sg c.gl c.ll];exact qr.k (k:=.inr "grounds") S'.sd
  have hsg:∀{H':Hp},ScAt H' sd c->qr H' sd (.str "single") (some (.ref c.sg)):=λS'=>by rw [<- xF c.p c.q c.sg c.gl c.ll];exact qr.k (k:=.inr "single") S'.sd
  have hlp:∀{H':Hp},ScAt H' sd c->qr H' sd (.str "leaps") (some (.ref c.ll)):=λS'=>by rw [<- za c.p c.q c.sg c.gl c.ll];exact qr.k (k:=.inr "leaps") S'.sd
  refine ⟨_,(j7 (ju 2 zx.nd (jk (jx K) (pv 1) j6 (λ_ _=>rfl)))
   (j7 (jB (jn qh (pv 2) jc (jt _)) (jb (jj (jk (jf K) (jz (j2 (js (j2 jc (j2 jc j5))) (j2 zy j5))) (jL gQ rfl nb.b_int eJ (j2 (jd (zk K rfl) rfl nb.b_all mJ (j2 (jW (osc:=(j9 xM)) (ON:=["_law_scene_here","_law_deed","_law_kind","_law_year_here"]) (N:=["_law_row"]) (own:=1) (caps:=[]) ⟨rfl,∅,∅,∅,rfl,∅⟩ rfl rfl rfl (qm K (jk (jx K) (pv 1) j6 (λ_ _=>rfl))) (λ_ _ _ _ _=>(ji (i:=0) (show aZ (["_law_row"]:List Str) by decide +kernel) rfl (bb rfl))) (λ_ _ _ _ _=>jH) (λ_ _ _ _ _=>(je c_law_good_row (hr.mono ⋯) rfl (j2 (pv 0) j5)))) j5)) j5)) (λ_ _=>rfl)))) jr)
   (j7 (jB (PW.pt (zU (jn (vM K) (pv 2) (js (j2 jc (j2 jc j5))) (by with_unfolding_all rfl)) (zK (qy (qC jS wc j6 (jk (jx K) (pv 1) j6 (λ_ _=>rfl)) (jd (jg K) rfl nb.b_len aR (j2 (jA (jJ hr) (pv 0) jc (λ_ _=>rfl)) j5))))))) (jb (jj (js (j2 jc (j2 jc j5))))) jr)
   (j7 (ju 3 zx.nd (jk (jx K) (pv 1) (jo qg j6 (jL gQ rfl nb.b_int eJ (j2 (zj (vM K) (pv 2) (js (j2 jc (j2 jc j5))) (by with_unfolding_all rfl)) j5))) (λ_ _=>rfl)))
   (j7 (jB (qy (qC jS jS j6 (pv 3) j6)) (jb (jj (js (j2 jc (j2 jc j5))))) jr)
   (j7 (jB (PW.pt (zU (jn qh (pv 2) jc (jt _)) (zK (qy (xC (je c_law_good_row (hr.mono ⋯) rfl (j2 (jk (jx K) (pv 1) j6 (λ_ _=>rfl)) j5))))))) (jb (jj (js (j2 jc (j2 jc j5))))) jr)
   (j7 (jB (PW.pt (zU (jn qh (pv 2) jc (jt _)) (zK (qy (qC jS jS j6 (jk (jx K) (pv 1) j6 (λ_ _=>rfl)) j6))))) (jb (jj (js (j2 jc (j2 jc j5))))) jr)
   (j7 (jB (PW.pt (kB (PW.pt (zU (jn qh (pv 2) jc (jt _)) (zK (JI (yZ (jJ hr) (pv 3) (jA (jJ hr) (pv 0) jc (λ_ _=>rfl))) (by with_unfolding_all rfl))))) (uB (PW.pt (zU (jn qh (pv 2) jc (jt _)) (zK (JI (yZ (jJ hr) (pv 3) (jk (jf K) (jA (jJ hr) (pv 0) jc (λ_ _=>rfl)) (jk (jx K) (pv 1) j6 (λ_ _=>rfl)) (λ_ _=>rfl))) (by with_unfolding_all rfl)))))))) (jb (jj (js (j2 jc (j2 jc j5))))) jr)
   (jb (jj zy)))))))))),?_⟩
  cases d with
  | turn ts =>
   obtain ⟨q,xs,ha,hq,r,l1,l2⟩:=D
   have hxl:xs.length=ts.length:=aX r
   left
   refine qo (λ_=>?_) (λz=>absurd rfl z)
   left
   refine ⟨by show 2<=sizeLine;decide,λtn H1 n1 h1 s1=>?_⟩
   left
   refine ⟨by show 2<=sizeLine;decide,λl2' H2 n2 h2 s2=>?_⟩
   have s02:=s1.trans s2
   have hq2:=s02 _ _ hq
   have ha2:=s02 _ _ ha
   left
   refine ⟨⟨_,SqL.of hq2⟩,λacc hacc=>?_⟩
   refine qc (K:=K) (a:=q) (xs:=xs) (acc:=acc) (λi σ H3=>∃x:Option V,σ=[x]/\H3 acc=some (.lst (((ts.take i).map good).map V.bl))/\Ext acc H2 H3) ?_ ?_ ?_ ?_
   ·exact ⟨none,rfl,j8,Ext.put⟩
   ·rintro i σ H3 hi ⟨x,rfl,h3,e3⟩
    exact SqL.of (e3 _ _ hq2 (j4 hq2 hacc))
   ·rintro i v σ H3 hv ⟨x,rfl,h3,e3⟩
    obtain ⟨tt,htt,bt,rfl,hbt⟩:=jQ.get r hv
    have hbt2:=s02 _ _ hbt
    have hi:=(List.getElem?_eq_some_iff.mp hv).1
    left
    refine ⟨bt,tt,rfl,e3 _ _ hbt2 (j4 hbt2 hacc),?_⟩
    refine ⟨_,h3,by rw [af,af,aT];exact jh (),_,rfl,?_,e3.trans Ext.put⟩
    rw [j8,bE,htt,aC,aC]
    rfl
   rintro σ H3 ⟨x,rfl,h3,e3⟩
   rw [cg ()] at h3
   have s3:jq H2 H3:=λc o hc=>e3 c o hc (j4 hc hacc)
   have hl3:=s3 _ _ h2
   left
   refine ⟨acc,ts.map good,rfl,SqL.of h3,?_⟩
   left
   refine .inr ⟨_,rfl,?_⟩
   rw [show ((ts.map good).all λb=>b)=ts.all good by rw [eV];rfl]
   cases eg:ts.all good with
   | true =>
    refine ⟨_,_,_,_,rfl,rfl,SqL.of hl3,rfl,?_⟩
    exact kn (if_pos eg) H3 (s02.trans s3)
   | false =>
    refine ⟨_,_,_,_,rfl,rfl,SqL.of hl3,rfl,?_⟩
    exact kw "BadRound" (if_neg (by rw [eg];exact ar)) tn H3 (s3 _ _ (s2 _ _ h1)) (s02.trans s3)
  | tell y r t =>
   obtain ⟨ha,ht⟩:=D
   left
   refine ⟨by show 2<=sizeLine;decide,λtp H1 n1 h1 s1=>?_⟩
   refine ⟨tp,_,rfl,.inr (SqT.of h1),rfl,rfl,?_⟩
   have ha1:=s1 _ _ ha
   left
   refine ⟨by show 2<=sizeLine;decide,λtp2 H2 n2 h2 s2=>?_⟩
   refine ⟨tp2,_,rfl,.inr (SqT.of h2),rfl,rfl,?_⟩
   have s02:=s1.trans s2
   have ha2:=s02 _ _ ha
   left
   refine .inr ⟨_,rfl,?_⟩
   left
   refine qo (λy0=>?_) (λy0=>?_)
   rotate_left
   ·left
    refine zF ?_
    left
    exact ⟨by show 2<=sizeLine;decide,λt9 H9 n9 h9 s9=>kw "BadYear" (by exact if_neg (λz=>())) t9 H9 h9 (s02.trans s9)⟩
   left
   refine xb (λy1=>?_) (λy1=>?_)
   ·left
    exact ⟨by show 2<=sizeLine;decide,λt9 H9 n9 h9 s9=>kw "BadYear" (by exact if_neg (λz=>())) t9 H9 h9 (s02.trans s9)⟩
   have hy:(0<=y/\y<=99):=⟨(),()⟩
   have ht2:=s02 _ _ ht
   left
   refine ⟨t,r,rfl,ht2,?_⟩
   cases eg:good r with
   | false =>
    left
    exact ⟨by show 2<=sizeLine;decide,λt9 H9 n9 h9 s9=>kw "BadWeather" (by show (if _ then _ else _)=_;rw [if_pos hy,if_neg (by rw [eg];exact ar)]) t9 H9 h9 (s02.trans s9)⟩
   | true =>
    left
    exact kn (by show (if _ then _ else _)=_;rw [if_pos hy,if_pos eg]) _ s02
  | plain y =>
   have ha:H a=some (.tup [.str "plain",.int y]):=D
   left
   refine ⟨by show 2<=sizeLine;decide,λtp H1 n1 h1 s1=>?_⟩
   refine ⟨tp,_,rfl,.inr (SqT.of h1),rfl,rfl,?_⟩
   have ha1:=s1 _ _ ha
   left
   refine ⟨by show 2<=sizeLine;decide,λtp2 H2 n2 h2 s2=>?_⟩
   refine ⟨tp2,_,rfl,.inr (SqT.of h2),rfl,rfl,?_⟩
   have s02:=s1.trans s2
   have ha2:=s02 _ _ ha
   left
   refine .inr ⟨_,rfl,?_⟩
   left
   refine qo (λy0=>?_) (λy0=>?_)
   rotate_left
   ·left
    refine zF ?_
    left
    exact ⟨by show 2<=sizeLine;decide,λt9 H9 n9 h9 s9=>kw "BadYear" (by exact if_neg (λz=>())) t9 H9 h9 (s02.trans s9)⟩
   left
   refine xb (λy1=>?_) (λy1=>?_)
   ·left
    exact ⟨by show 2<=sizeLine;decide,λt9 H9 n9 h9 s9=>kw "BadYear" (by exact if_neg (λz=>())) t9 H9 h9 (s02.trans s9)⟩
   have hy:(0<=y/\y<=99):=⟨(),()⟩
   have S2:=S.same s02
   left
   refine ⟨sd,.ref c.sg,rfl,hsg S2,?_⟩
   left
   refine ⟨c.sg,_,rfl,.inl ⟨_,.inl y,S2.sg,rfl,rfl⟩,?_⟩
   rw [wJ]
   by_cases hm:y∈c.sk.map (·.1)
   ·rw [decide_eq_true hm]
    left
    exact kn (by show (if _ then _ else _)=_;rw [if_pos hy,if_pos hm]) _ s02
   ·rw [decide_eq_false hm]
    left
    exact ⟨by show 2<=sizeLine;decide,λt9 H9 n9 h9 s9=>kw "NotTold" (by show (if _ then _ else _)=_;rw [if_pos hy,if_neg hm]) t9 H9 h9 (s02.trans s9)⟩
  | surge l y m =>
   have ha:H a=some (.tup [.str "surge",.int l,.int y,.int m]):=D
   left
   refine ⟨by show 2<=sizeLine;decide,λtp H1 n1 h1 s1=>?_⟩
   refine ⟨tp,_,rfl,.inr (SqT.of h1),rfl,rfl,?_⟩
   have ha1:=s1 _ _ ha
   left
   have S1:=S.same s1
   have noL:(¬(0<=l/\l<(c.ws.length:Int)))->vo c (.surge l y m)=some ("NoLane" : Str):=λz=>if_neg z
   refine qo (λl0=>?_) (λl0=>?_)
   rotate_left
   ·left
    refine zF ?_
    left
    exact ⟨by show 2<=sizeLine;decide,λt9 H9 n9 h9 s9=>kw "NoLane" (noL ()) t9 H9 h9 (s1.trans s9)⟩
   left
   refine ⟨sd,.ref c.gl,rfl,hgd S1,?_⟩
   left
   refine ⟨c.gl,_,rfl,.inl (SqL.of S1.gl),?_⟩
   rw [hzl]
   left
   refine xb (λl1=>?_) (λl1=>?_)
   ·left
    exact ⟨by show 2<=sizeLine;decide,λt9 H9 n9 h9 s9=>kw "NoLane" (noL ()) t9 H9 h9 (s1.trans s9)⟩
   have hl:0<=l/\l<(c.ws.length:Int):=⟨l0,()⟩
   left
   refine ⟨by show 2<=sizeLine;decide,λtp2 H2 n2 h2 s2=>?_⟩
   refine ⟨tp2,_,rfl,.inr (SqT.of h2),rfl,rfl,?_⟩
   have s02:=s1.trans s2
   have ha2:=s02 _ _ ha
   left
   refine .inr ⟨_,rfl,?_⟩
   left
   refine qo (λy0=>?_) (λy0=>?_)
   rotate_left
   ·left
    refine zF ?_
    left
    exact ⟨by show 2<=sizeLine;decide,λt9 H9 n9 h9 s9=>kw "BadYear" (by show (if _ then _ else _)=_;rw [if_pos hl];exact if_neg (λz=>())) t9 H9 h9 (s02.trans s9)⟩
   left
   refine xb (λy1=>?_) (λy1=>?_)
   ·left
    exact ⟨by show 2<=sizeLine;decide,λt9 H9 n9 h9 s9=>kw "BadYear" (by show (if _ then _ else _)=_;rw [if_pos hl];exact if_neg (λz=>())) t9 H9 h9 (s02.trans s9)⟩
   have hy:(0<=y/\y<=99):=⟨(),()⟩
   left
   have noM:(¬(1<=m/\m<=9))->vo c (.surge l y m)=some ("BadSurge" : Str):=λz=>by
    show (if _ then _ else _)=_
    rw [if_pos hl,if_pos hy,if_neg z]
   refine qo (λm0=>?_) (λm0=>?_)
   rotate_left
   ·left
    refine zF ?_
    left
    exact ⟨by show 2<=sizeLine;decide,λt9 H9 n9 h9 s9=>kw "BadSurge" (noM ()) t9 H9 h9 (s02.trans s9)⟩
   left
   refine xb (λm1=>?_) (λm1=>?_)
   ·left
    exact ⟨by show 2<=sizeLine;decide,λt9 H9 n9 h9 s9=>kw "BadSurge" (noM ()) t9 H9 h9 (s02.trans s9)⟩
   left
   exact kn (by show (if _ then _ else _)=_;rw [if_pos hl,if_pos hy,if_pos ⟨(),()⟩]) _ s02
  | calm l y =>
   have ha:H a=some (.tup [.str "calm",.int l,.int y]):=D
   left
   refine ⟨by show 2<=sizeLine;decide,λtp H1 n1 h1 s1=>?_⟩
   refine ⟨tp,_,rfl,.inr (SqT.of h1),rfl,rfl,?_⟩
   have ha1:=s1 _ _ ha
   left
   have S1:=S.same s1
   have noL:(¬(0<=l/\l<(c.ws.length:Int)))->vo c (.calm l y)=some ("NoLane" : Str):=λz=>if_neg z
   refine qo (λl0=>?_) (λl0=>?_)
   rotate_left
   ·left
    refine zF ?_
    left
    exact ⟨by show 2<=sizeLine;decide,λt9 H9 n9 h9 s9=>kw "NoLane" (noL ()) t9 H9 h9 (s1.trans s9)⟩
   left
   refine ⟨sd,.ref c.gl,rfl,hgd S1,?_⟩
   left
   refine ⟨c.gl,_,rfl,.inl (SqL.of S1.gl),?_⟩
   rw [hzl]
   left
   refine xb (λl1=>?_) (λl1=>?_)
   ·left
    exact ⟨by show 2<=sizeLine;decide,λt9 H9 n9 h9 s9=>kw "NoLane" (noL ()) t9 H9 h9 (s1.trans s9)⟩
   have hl:0<=l/\l<(c.ws.length:Int):=⟨l0,()⟩
   left
   refine ⟨by show 2<=sizeLine;decide,λtp2 H2 n2 h2 s2=>?_⟩
   refine ⟨tp2,_,rfl,.inr (SqT.of h2),rfl,rfl,?_⟩
   have s02:=s1.trans s2
   have ha2:=s02 _ _ ha
   left
   refine .inr ⟨_,rfl,?_⟩
   left
   refine qo (λy0=>?_) (λy0=>?_)
   rotate_left
   ·left
    refine zF ?_
    left
    exact ⟨by show 2<=sizeLine;decide,λt9 H9 n9 h9 s9=>kw "BadYear" (by show (if _ then _ else _)=_;rw [if_pos hl];exact if_neg (λz=>())) t9 H9 h9 (s02.trans s9)⟩
   left
   refine xb (λy1=>?_) (λy1=>?_)
   ·left
    exact ⟨by show 2<=sizeLine;decide,λt9 H9 n9 h9 s9=>kw "BadYear" (by show (if _ then _ else _)=_;rw [if_pos hl];exact if_neg (λz=>())) t9 H9 h9 (s02.trans s9)⟩
   have hy:(0<=y/\y<=99):=⟨(),()⟩
   have S2:=S.same s02
   left
   have hi:l.toNat<c.lds.length:=()
   have hxl:c.lds[l.toNat]? = some (c.lds.getD l.toNat (0,[])):=by rw [ao,ag hi];rfl
   refine ⟨sd,.ref c.ll,rfl,hlp S2,?_⟩
   left
   refine ⟨_,_,_,_,rfl,rfl,SqL.of S2.ll,qG (v:=V.ref (c.lds.getD l.toNat (0,[])).1) l0 (by rw [aq,hxl];rfl),?_⟩
   left
   refine ⟨_,_,rfl,.inl ⟨_,.inl y,S2.ld _ (au hxl),rfl,rfl⟩,?_⟩
   rw [kG]
   by_cases hm:y∈(c.lds.getD l.toNat (0,[])).2.map (·.1)
   ·rw [decide_eq_true hm]
    left
    exact kn (by show (if _ then _ else _)=_;rw [if_pos hl,if_pos hy,if_pos hm]) _ s02
   ·rw [decide_eq_false hm]
    left
    exact ⟨by show 2<=sizeLine;decide,λt9 H9 n9 h9 s9=>kw "NotTold" (by show (if _ then _ else _)=_;rw [if_pos hl,if_pos hy,if_neg hm]) t9 H9 h9 (s02.trans s9)⟩
noncomputable def Qh (g:IceG):DeedD->Option Str
 | .turn ts=>if gr ts=true then none else some "BadRound"
 | .tell y r _=>if 0<=y/\y<=99 then (if good r=true then none else some "BadWeather") else some "BadYear"
 | .plain y=>if 0<=y/\y<=99 then (if (qx g.kvs (.inl y)).isSome=true then none else some "NotTold") else some "BadYear"
 | .surge l y m=>if 0<=l/\l<(g.slopes.length:Int) then (if 0<=y/\y<=99 then (if 1<=m/\m<=9 then none else some "BadSurge") else some "BadYear") else some "NoLane"
 | .calm l y=>if 0<=l/\l<(g.slopes.length:Int) then (if 0<=y/\y<=99 then (if (qx (g.lds.getD l.toNat (0,[])).2 (.inl y)).isSome=true then none else some "NotTold") else some "BadYear") else some "NoLane"
noncomputable def Za (H:Hp) (g:IceG):DeedD->IceG->Prop
 | .turn ts,g'=>∃cy xs,H cy=none/\g'={ g with cy:=cy,ys:=xs,rows:=ts }
 | .tell y _ t,g'=>g'={ g with kvs:=qt g.kvs (.inl y) (.ref t) }
 | .plain y,g'=>g'={ g with kvs:=zg g.kvs (.inl y) }
 | .surge l y m,g'=>∃a kvs,g.lds[l.toNat]? = some (a,kvs)/\g'={ g with lds:=xk g.lds l.toNat (qt kvs (.inl y) (.int m)) }
 | .calm l y,g'=>∃a kvs,g.lds[l.toNat]? = some (a,kvs)/\g'={ g with lds:=xk g.lds l.toNat (zg kvs (.inl y)) }
noncomputable def FrI (p:Addr) (g:IceG) (H H':Hp):Prop:=∀a u,H a=some u->a≠p->a≠g.ye->(∀x∈g.lds,a≠x.1)->H' a=some u
noncomputable def WN (C:Addr):Sp:=λvs H Q _=>∃(p a:Addr) (g:IceG) (d:DeedD),vs=[.ref p,.ref a]/\IceAt C H p g/\g.lds.length=g.slopes.length/\(∀x∈g.lds,x.1≠g.ye)/\(g.lds.map (·.1)).Nodup/\(∀x∈g.lds,x.2.length<=1000)/\g.kvs.length<=1000/\xG H a d /\
 (Qh g d=none->∀g' H',Za H g d g'->IceAt C H' p g'->FrI p g H H'->Q .non H')/\∀w,Qh g d=some w->∀t H',H' t=some (.tup [.str "no",.str w])->jq H H'->Q (.ref t) H'
theorem jX:FnScope ["_law_ice","_law_deed","_law_found","_law_handed","_law_e"] ["_law_ice","_law_deed"] (j9 yh):=by walk_at "s"
theorem Yw {f C CR CW CY CS CN CO CF:Addr}{Cs:List Addr}{fd:FuncData}(nb:Nb2 mg) (cl_Ice:Cls K C) (e_FirnError:mg "FirnError" = some (.ref CF)) (mR:bR K (.ref CR) (.ref CF)=some true) (mW:bR K (.ref CW) (.ref CF)=some true) (mY:bR K (.ref CY) (.ref CF)=some true) (mS:bR K (.ref CS) (.ref CF)=some true) (mN:bR K (.ref CN) (.ref CF)=some true) (mO:bR K (.ref CO) (.ref CF)=some true)
  (kR:KindK K Cs CR 1) (kW:KindK K Cs CW 2) (kY:KindK K Cs CY 3) (kS:KindK K Cs CS 4) (kN:KindK K Cs CN 9) (kO:KindK K Cs CO 12)
  (c_Ice__turn:CalMX P w K mg base 4 C "turn" ["self","rows"] (YE C CR)) (c_Ice__tell:CalMX P w K mg base 2 C "tell" ["self","year","row"] (X0 C CY CW)) (c_Ice__plain:CalMX P w K mg base 2 C "plain" ["self","year"] (Zz C CY CO)) (c_Ice__surge:CalMX P w K mg base 2 C "surge" ["self","lane","year","many"] (JH C CN CY CS)) (c_Ice__calm:CalMX P w K mg base 2 C "calm" ["self","lane","year"] (YB C CN CY CO)) (c_law_kinds:CalH P w K mg base 1 "_law_kinds" ["_law_e"] (Zk K Cs))
  (F:Fun K "_law_ice_do" "_law_ice_do" yh f fd):FnOk P w K mg base CX0 5 f fd ["_law_ice","_law_deed"] (WN C):=by
 refine F.ok jX (λvs H Q E h=>?_) (λcdv A outer s H vs Q E hr h=>?_)
 ·obtain ⟨p,a,g,d,rfl,_⟩:=h
  rfl
 ·obtain ⟨p,a,g,d,rfl,I,hll,hn,nd,hk,hk2,D,kn,kw⟩:=h
  refine ⟨_,(j7 (ju 2 jX.nd zy)
   (j7 (QV (i:=4) K rfl rfl e_FirnError rfl jX.nd rfl rfl (λpn J=>(jb (jB (jn qh (jk (jx K) (pv 1) j6 (λ_ _=>rfl)) jc (jt _)) (j7 (ju 3 jX.nd (jL (qa K) rfl nb.b_list bz (j2 (jk (jx K) (pv 1) j6 (λ_ _=>rfl)) j5)))
   (j7 (ju 2 jX.nd (yG (pv 0) cl_Ice c_Ice__turn (hr.mono ⋯) vj (j2 (pv 3) j5)))
   (jb (qi (vI K c7 bX bY qM (pv 3) (j2 (js (j2 j6 (j2 j6 (j2 j6 j5)))) j5)))))) (jb (jB (jn qh (jk (jx K) (pv 1) j6 (λ_ _=>rfl)) jc (jt _)) (jb (ju 2 jX.nd (yG (pv 0) cl_Ice c_Ice__tell (hr.mono ⋯) vj (j2 (jk (jx K) (pv 1) j6 (λ_ _=>rfl)) (j2 (jk (jx K) (pv 1) j6 (λ_ _=>rfl)) j5))))) (jb (jB (jn qh (jk (jx K) (pv 1) j6 (λ_ _=>rfl)) jc (jt _)) (jb (ju 2 jX.nd (yG (pv 0) cl_Ice c_Ice__plain (hr.mono ⋯) vj (j2 (jk (jx K) (pv 1) j6 (λ_ _=>rfl)) j5)))) (jb (jB (jn qh (jk (jx K) (pv 1) j6 (λ_ _=>rfl)) jc (jt _)) (jb (ju 2 jX.nd (yG (pv 0) cl_Ice c_Ice__surge (hr.mono ⋯) vj (j2 (jk (jx K) (pv 1) j6 (λ_ _=>rfl)) (j2 (jk (jx K) (pv 1) j6 (λ_ _=>rfl)) (j2 (jk (jx K) (pv 1) j6 (λ_ _=>rfl)) j5)))))) (jb (ju 2 jX.nd (yG (pv 0) cl_Ice c_Ice__calm (hr.mono ⋯) vj (j2 (jk (jx K) (pv 1) j6 (λ_ _=>rfl)) (j2 (jk (jx K) (pv 1) j6 (λ_ _=>rfl)) j5)))))))))))))) (λa oe pn=>(jb (ju 2 jX.nd (Zg c_law_kinds (hr.mono (j:=1) ⋯).dp (hr.mono (j:=1) ⋯).un rfl (aE _ (List.mem_singleton.mpr rfl)) rfl (j2 (pv 4) j5))))))
   (jb (jj (pv 2))))),?_⟩
  cases d with
  | turn ts =>
   obtain ⟨q,xs,ha,hq,r,l1,l2⟩:=D
   have hxl:xs.length=ts.length:=aX r
   left
   refine ⟨q,xs,rfl,.inl (SqL.of hq),λhd H1 n1 h1 s1=>?_⟩
   have I1:=I.same s1
   left
   refine ⟨p,g.dx,_,rfl,I1.ob,xu ∅,?_⟩
   left
   refine ⟨p,hd,g,xs,ts,rfl,I1,h1,jQ.imp r λ_ _ h=>s1 _ _ h,(),λH2 cy hg hcy e2 I2=>?_,λH1' hg s1'=>⟨mR,λa' oe eo ha'=>?_⟩⟩
   ·have hdp:hd≠p:=(j4 I.ob n1).symm
    have h2:=e2 _ _ h1 hdp
    left
    refine ⟨.inl ⟨rfl,_,SqL.of h2⟩,?_⟩
    left
    refine ⟨by show 3<=sizeLine;decide,λtq H3 htq htq3 s3=>?_⟩
    refine ⟨_,_,_,rfl,rfl,s3 _ _ h2,jh (),?_⟩
    have nH:∀{b:Addr} {u v:HO},H3 b=some u->b≠hd->(upd H3 hd v) b=some u:=λh n=>by rw [ja n];exact h
    have up:∀b u,H b=some u->b≠p->(upd H3 hd (.lst (xs++[V.ref tq]))) b=some u:=λb u h n=>nH (s3 _ _ (e2 _ _ (s1 _ _ h) n)) (j4 h n1)
    have pne:(upd H3 hd (.lst (xs++[V.ref tq]))) p=some (.ins C g.dx (vX g.va cy g.sl g.ye g.le)):=nH (s3 _ _ I2.ob) hdp.symm
    have cyh:cy≠hd:=(j4 h1 hcy).symm
    left
    exact kn (if_pos hg) _ _ ⟨cy,xs,s1.free hcy,rfl⟩ (I.cycle up pne (nH (s3 _ _ I2.cy) cyh) (jQ.imp I2.rows λ_ _ h=>nH (s3 _ _ h) (jp h h2 (by walk_at "z")))) (λb u h n1' n2' n3'=>up b u h n1')
   ·left
    refine ⟨_,eo,CR,1,rfl,rfl,kR,λt2 H2 ht2 s2=>?_⟩
    show vU (y4 2) _ _ _
    left
    exact kw "BadRound" (if_neg (by rw [hg];exact ar)) t2 H2 ht2 ((s1.trans s1').trans s2)
  | tell y r t =>
   obtain ⟨ha,ht⟩:=D
   left
   refine ⟨p,g.dx,_,rfl,I.ob,xu ∅,?_⟩
   left
   refine ⟨p,t,g,y,r,rfl,I,hn,ht,hk2,λH1 y0 y1 hg e1 I1=>?_,λhb=>⟨mY,λa' oe eo ha'=>?_⟩,λy0 y1 hg=>⟨mW,λa' oe eo ha'=>?_⟩⟩
   ·left
    exact kn (by show (if _ then _ else _)=_;rw [if_pos (show 0<=y/\y<=99 from ⟨y0,y1⟩),if_pos hg]) _ H1 rfl I1 (λb u h n1 n2 n3=>e1 _ _ h n2)
   ·left
    refine ⟨_,eo,CY,3,rfl,rfl,kY,λt2 H2 ht2 s2=>?_⟩
    show vU (y4 2) _ _ _
    left
    exact kw "BadYear" (if_neg ()) t2 H2 ht2 (s2)
   ·left
    refine ⟨_,eo,CW,2,rfl,rfl,kW,λt2 H2 ht2 s2=>?_⟩
    show vU (y4 2) _ _ _
    left
    exact kw "BadWeather" (by show (if _ then _ else _)=_;rw [if_pos (show 0<=y/\y<=99 from ⟨y0,y1⟩),if_neg (by rw [hg];exact ar)]) t2 H2 ht2 (s2)
  | plain y =>
   have ha:H a=some (.tup [.str "plain",.int y]):=D
   left
   refine ⟨p,g.dx,_,rfl,I.ob,xu ∅,?_⟩
   left
   refine ⟨p,g,y,rfl,I,hn,λH1 y0 y1 hs e1 I1=>?_,λhb=>⟨mY,λa' oe eo ha'=>?_⟩,λy0 y1 hv=>⟨mO,λa' oe eo ha'=>?_⟩⟩
   ·left
    exact kn (by show (if _ then _ else _)=_;rw [if_pos (show 0<=y/\y<=99 from ⟨y0,y1⟩),if_pos hs]) _ H1 rfl I1 (λb u h n1 n2 n3=>e1 _ _ h n2)
   ·left
    refine ⟨_,eo,CY,3,rfl,rfl,kY,λt2 H2 ht2 s2=>?_⟩
    show vU (y4 2) _ _ _
    left
    exact kw "BadYear" (if_neg ()) t2 H2 ht2 (s2)
   ·left
    refine ⟨_,eo,CO,12,rfl,rfl,kO,λt2 H2 ht2 s2=>?_⟩
    show vU (y4 2) _ _ _
    left
    exact kw "NotTold" (by show (if _ then _ else _)=_;rw [if_pos (show 0<=y/\y<=99 from ⟨y0,y1⟩),if_neg (by rw [hv];exact ar)]) t2 H2 ht2 (s2)
  | surge l y m =>
   have ha:H a=some (.tup [.str "surge",.int l,.int y,.int m]):=D
   left
   refine ⟨p,g.dx,_,rfl,I.ob,xu ∅,?_⟩
   left
   refine ⟨p,g,l,y,m,rfl,I,hll,hn,nd,hk,λH1 a' kvs l0 l1 y0 y1 m0 m1 hl e1 I1=>?_,λhb=>⟨mN,λa' oe eo ha'=>?_⟩,λl0 l1 hb=>⟨mY,λa' oe eo ha'=>?_⟩,λl0 l1 y0 y1 hb=>⟨mS,λa' oe eo ha'=>?_⟩⟩
   ·left
    exact kn (by show (if _ then _ else _)=_;rw [if_pos (show 0<=l/\l<(g.slopes.length:Int) from ⟨l0,l1⟩),if_pos (show 0<=y/\y<=99 from ⟨y0,y1⟩),if_pos (show 1<=m/\m<=9 from ⟨m0,m1⟩)]) _ H1 ⟨a',kvs,hl,rfl⟩ I1 (λb u h n1 n2 n3=>e1 _ _ h (n3 _ (au hl)))
   ·left
    refine ⟨_,eo,CN,9,rfl,rfl,kN,λt2 H2 ht2 s2=>?_⟩
    show vU (y4 2) _ _ _
    left
    exact kw "NoLane" (if_neg ()) t2 H2 ht2 (s2)
   ·left
    refine ⟨_,eo,CY,3,rfl,rfl,kY,λt2 H2 ht2 s2=>?_⟩
    show vU (y4 2) _ _ _
    left
    exact kw "BadYear" (by show (if _ then _ else _)=_;rw [if_pos (show 0<=l/\l<(g.slopes.length:Int) from ⟨l0,l1⟩),if_neg ()]) t2 H2 ht2 (s2)
   ·left
    refine ⟨_,eo,CS,4,rfl,rfl,kS,λt2 H2 ht2 s2=>?_⟩
    show vU (y4 2) _ _ _
    left
    exact kw "BadSurge" (by show (if _ then _ else _)=_;rw [if_pos (show 0<=l/\l<(g.slopes.length:Int) from ⟨l0,l1⟩),if_pos (show 0<=y/\y<=99 from ⟨y0,y1⟩),if_neg ()]) t2 H2 ht2 (s2)
  | calm l y =>
   have ha:H a=some (.tup [.str "calm",.int l,.int y]):=D
   left
   refine ⟨p,g.dx,_,rfl,I.ob,xu ∅,?_⟩
   left
   refine ⟨p,g,l,y,rfl,I,hll,hn,nd,λH1 a' kvs l0 l1 y0 y1 hl hs e1 I1=>?_,λhb=>⟨mN,λa' oe eo ha'=>?_⟩,λl0 l1 hb=>⟨mY,λa' oe eo ha'=>?_⟩,λb' kvs l0 l1 y0 y1 hl hv=>⟨mO,λa' oe eo ha'=>?_⟩⟩
   ·left
    exact kn (by show (if _ then _ else _)=_;rw [if_pos (show 0<=l/\l<(g.slopes.length:Int) from ⟨l0,l1⟩),if_pos (show 0<=y/\y<=99 from ⟨y0,y1⟩),if_pos (by rw [ao,hl];exact hs)]) _ H1 ⟨a',kvs,hl,rfl⟩ I1 (λb u h n1 n2 n3=>e1 _ _ h (n3 _ (au hl)))
   ·left
    refine ⟨_,eo,CN,9,rfl,rfl,kN,λt2 H2 ht2 s2=>?_⟩
    show vU (y4 2) _ _ _
    left
    exact kw "NoLane" (if_neg ()) t2 H2 ht2 (s2)
   ·left
    refine ⟨_,eo,CY,3,rfl,rfl,kY,λt2 H2 ht2 s2=>?_⟩
    show vU (y4 2) _ _ _
    left
    exact kw "BadYear" (by show (if _ then _ else _)=_;rw [if_pos (show 0<=l/\l<(g.slopes.length:Int) from ⟨l0,l1⟩),if_neg ()]) t2 H2 ht2 (s2)
   ·left
    refine ⟨_,eo,CO,12,rfl,rfl,kO,λt2 H2 ht2 s2=>?_⟩
    show vU (y4 2) _ _ _
    left
    exact kw "NotTold" (by show (if _ then _ else _)=_;rw [if_pos (show 0<=l/\l<(g.slopes.length:Int) from ⟨l0,l1⟩),if_pos (show 0<=y/\y<=99 from ⟨y0,y1⟩),if_neg (by rw [ao,hl];show ¬(qx kvs (.inl y)).isSome=true;rw [hv];exact ar)]) t2 H2 ht2 (s2)
theorem QC (p q sg gl ll q2:Addr):qt (scK p q sg gl ll) (.inr "rows") (.ref q2)=scK p q2 sg gl ll:=by
 unfold qt scK
 rw [if_pos (by simp [sU])]
 simp only [b8,eU]
 rw [if_neg (show ¬(aJ (aj "reaches"):Key)=aJ (aj "rows") by decide +kernel),if_pos trivial,if_neg (show ¬(aJ (aj "single"):Key)=aJ (aj "rows") by decide +kernel),if_neg (show ¬(aJ (aj "grounds"):Key)=aJ (aj "rows") by decide +kernel),if_neg (show ¬(aJ (aj "leaps"):Key)=aJ (aj "rows") by decide +kernel)]
theorem XQ (p q sg gl ll s2:Addr):qt (scK p q sg gl ll) (.inr "single") (.ref s2)=scK p q s2 gl ll:=by
 unfold qt scK
 rw [if_pos (by simp [sU])]
 simp only [b8,eU]
 rw [if_neg (show ¬(aJ (aj "reaches"):Key)=aJ (aj "single") by decide +kernel),if_neg (show ¬(aJ (aj "rows"):Key)=aJ (aj "single") by decide +kernel),if_pos trivial,if_neg (show ¬(aJ (aj "grounds"):Key)=aJ (aj "single") by decide +kernel),if_neg (show ¬(aJ (aj "leaps"):Key)=aJ (aj "single") by decide +kernel)]
theorem Yk (p q sg gl ll l2:Addr):qt (scK p q sg gl ll) (.inr "leaps") (.ref l2)=scK p q sg gl l2:=by
 unfold qt scK
 rw [if_pos (by simp [sU])]
 simp only [b8,eU]
 rw [if_neg (show ¬(aJ (aj "reaches"):Key)=aJ (aj "leaps") by decide +kernel),if_neg (show ¬(aJ (aj "rows"):Key)=aJ (aj "leaps") by decide +kernel),if_neg (show ¬(aJ (aj "single"):Key)=aJ (aj "leaps") by decide +kernel),if_neg (show ¬(aJ (aj "grounds"):Key)=aJ (aj "leaps") by decide +kernel),if_pos trivial]
noncomputable def Ve:Sp:=λvs H Q _=>∃(sd:Addr) (c:ScN),vs=[.ref sd]/\ScAt H sd c/\c.lds.length<=100 /\
 ∀(s2 q2 g2 l2:Addr) (as:List Addr) (H':Hp),H s2=none->H q2=none->H g2=none->H l2=none->(∀a∈as,H a=none)->as.Nodup->g2∉as->q2≠l2->as.length=c.lds.length->H' s2=some (.dK (scK c.p q2 g2 c.gl l2))->H' q2=some (.lst c.ys)->H' g2=some (.dK (c.sk.map kvA))->H' l2=some (.lst (as.map V.ref))->(∀(i:Nat) a,as[i]? = some a->∃x,c.lds[i]? = some x/\H' a=some (.dK (x.2.map kvI)))->s2∉as->s2≠g2->jq H H'->Q (.ref s2) H'
theorem zP:FnScope ["_law_scene_here","_law_other"] ["_law_scene_here"] (j9 qY):=by walk_at "s"
theorem Ua {f:Addr}{fd:FuncData}(nb:Nb2 mg) (b_dict:mg "dict" = none) (F:Fun K "_law_scene_copy" "_law_scene_copy" qY f fd):FnOk P w K mg base CX0 1 f fd ["_law_scene_here"] Ve:=by
 refine F.ok zP (λvs H Q E h=>?_) (λcdv A outer s H vs Q E hr h=>?_)
 ·obtain ⟨sd,c,rfl,_⟩:=h
  rfl
 ·obtain ⟨sd,c,rfl,S,h100,k⟩:=h
  have dg:∀{H':Hp} {a:Addr} (p q sg gl ll:Addr),H' a=some (.dK (scK p q sg gl ll))->qr H' a (.str "rows") (some (.ref q))/\qr H' a (.str "single") (some (.ref sg))/\qr H' a (.str "leaps") (some (.ref ll)):=λp q sg gl ll h=>⟨by rw [<- ZB p q sg gl ll];exact qr.k (k:=.inr "rows") h,by rw [<- xF p q sg gl ll];exact qr.k (k:=.inr "single") h,by rw [<- za p q sg gl ll];exact qr.k (k:=.inr "leaps") h⟩
  refine ⟨_,(j7 (ju 1 zP.nd (jL (vB K rfl) rfl b_dict fR (j2 (pv 0) j5)))
   (j7 (xf (jJ hr) (pv 1) jc (jL (qa K) rfl nb.b_list bz (j2 (jA (jJ hr) (pv 0) jc (λ_ _=>rfl)) j5)) rfl)
   (j7 (xf (jJ hr) (pv 1) jc (jL (vB K rfl) rfl b_dict fR (j2 (jA (jJ hr) (pv 0) jc (λ_ _=>rfl)) j5)) rfl)
   (j7 (xf (jJ hr) (pv 1) jc (jW (osc:=(j9 qY)) (ON:=["_law_scene_here","_law_other"]) (N:=["_law_leaps"]) (own:=1) (caps:=[]) ⟨rfl,∅,∅,∅,rfl,∅⟩ rfl rfl rfl (qm K (jA (jJ hr) (pv 0) jc (λ_ _=>rfl))) (λ_ _ _ _ _=>(ji (i:=0) (show aZ (["_law_leaps"]:List Str) by decide +kernel) rfl (bb rfl))) (λ_ _ _ _ _=>jH) (λ_ _ _ _ _=>(jL (vB K rfl) rfl b_dict fR (j2 (pv 0) j5)))) rfl)
   (jb (jj (pv 1))))))),?_⟩
  left
  refine ⟨sd,_,rfl,.inl S.sd,λs2 H1 hs2 hs21 s1=>?_⟩
  left
  refine ⟨sd,_,rfl,(dg _ _ _ _ _ (s1 _ _ S.sd)).1,?_⟩
  left
  refine ⟨c.q,_,rfl,.inl (SqL.of (s1 _ _ S.q)),λq2 H2 hq2 hq22 t2=>?_⟩
  left
  have s12:=s1.trans t2
  refine ⟨s2,_,rfl,vq.k (k:=.inr "rows") (t2 _ _ hs21) (by show 5<sizeLine;decide),?_⟩
  rw [QC]
  have q2s:q2≠s2:=(j4 hs21 hq2).symm
  have h2:(upd H2 s2 (.dK (scK c.p q2 c.sg c.gl c.ll))) s2=some (.dK (scK c.p q2 c.sg c.gl c.ll)):=j8
  have hq2':(upd H2 s2 (.dK (scK c.p q2 c.sg c.gl c.ll))) q2=some (.lst c.ys):=by rw [ja q2s];exact hq22
  have o2:jq H (upd H2 s2 (.dK (scK c.p q2 c.sg c.gl c.ll))):=λa o h=>by rw [ja (j4 h hs2)];exact s12 _ _ h
  generalize upd H2 s2 (.dK (scK c.p q2 c.sg c.gl c.ll))=H3 at *
  have hq0:H q2=none:=s1.free hq2
  left
  refine ⟨sd,_,rfl,(dg _ _ _ _ _ (o2 _ _ S.sd)).2.1,?_⟩
  left
  refine ⟨c.sg,_,rfl,(S.same o2).sg,λg2 H4 hg2 hg24 s4=>?_⟩
  left
  refine ⟨s2,_,rfl,vq.k (k:=.inr "single") (s4 _ _ h2) (by show 5<sizeLine;decide),?_⟩
  rw [XQ]
  have g2s:g2≠s2:=(j4 h2 hg2).symm
  have g20:H g2=none:=o2.free hg2
  have h4:(upd H4 s2 (.dK (scK c.p q2 g2 c.gl c.ll))) s2=some (.dK (scK c.p q2 g2 c.gl c.ll)):=j8
  have hq4:(upd H4 s2 (.dK (scK c.p q2 g2 c.gl c.ll))) q2=some (.lst c.ys):=by rw [ja q2s];exact s4 _ _ hq2'
  have hg4:(upd H4 s2 (.dK (scK c.p q2 g2 c.gl c.ll))) g2=some (.dK (c.sk.map kvA)):=by rw [ja g2s];exact hg24
  have o4:jq H (upd H4 s2 (.dK (scK c.p q2 g2 c.gl c.ll))):=λa o h=>by rw [ja (j4 h hs2)];exact s4 _ _ (o2 _ _ h)
  clear hq2' h2 hg24
  generalize upd H4 s2 (.dK (scK c.p q2 g2 c.gl c.ll))=H5 at *
  have S5:=S.same o4
  left
  refine ⟨sd,_,rfl,(dg _ _ _ _ _ S5.sd).2.2,?_⟩
  left
  refine ⟨⟨_,SqL.of S5.ll⟩,λl2 hl2=>?_⟩
  refine qc (K:=K) (a:=c.ll) (xs:=c.lds.map λx=>V.ref x.1) (acc:=l2) (λi σ H6=>∃(x:Option V) (as:List Addr),σ=[x]/\H6 l2=some (.lst (as.map V.ref))/\as.length=i/\as.Nodup/\(∀a∈as,H5 a=none/\a≠l2)/\(∀(j:Nat) a,as[j]? = some a->∃x,c.lds[j]? = some x/\H6 a=some (.dK (x.2.map kvI)))/\Ext l2 H5 H6) ?_ ?_ ?_ ?_
  ·exact ⟨none,[],rfl,j8,rfl,.nil,(λa h=>by cases h),(λj a h=>by cases h),Ext.put⟩
  ·rintro i σ H6 hi ⟨x,as,rfl,h6,hl,nd,hf,hv,e6⟩
   exact SqL.of (e6 _ _ S5.ll (j4 S5.ll hl2))
  ·rintro i v σ H6 hvi ⟨x,as,rfl,h6,hl,nd,hf,hv,e6⟩
   rw [aq] at hvi
   obtain ⟨y,hy,rfl⟩:=Option.map_eq_some_iff.mp hvi
   have hi:=(List.getElem?_eq_some_iff.mp hy).1
   have s6:jq H5 H6:=λc o hc=>e6 c o hc (j4 hc hl2)
   left
   refine ⟨y.1,_,rfl,(S5.same s6).ld y (au hy),λd H7 hd hd7 s7=>?_⟩
   have dl:d≠l2:=(j4 h6 hd).symm
   refine ⟨_,s7 _ _ h6,by rw [af];exact jh (),_,as++[d],rfl,(by rw [j8,aC];rfl),(by rw [az,hl];rfl),uk nd λz=>?_,λa ha=>?_,λj a ha=>?_,λc o hc n=>by rw [ja n];exact s7 _ _ (e6 c o hc n)⟩
   ·obtain ⟨j,hj,ej⟩:=List.mem_iff_getElem.mp z
    obtain ⟨_,_,h⟩:=hv j d (by rw [ag hj,ej])
    rw [hd] at h
    cases h
   ·rcases List.mem_append.mp ha with z | z
    ·exact hf a z
    ·rw [List.mem_singleton.mp z]
     exact ⟨s6.free hd,dl⟩
   ·by_cases hj:j<as.length
    ·rw [cS hj] at ha
     obtain ⟨x,h1,h2⟩:=hv j a ha
     have hm:=hf a (au ha)
     exact ⟨x,h1,by rw [ja hm.2];exact s7 _ _ h2⟩
    ·rw [cI ()] at ha
     have hj0:j-as.length=0:=by
      have:=(List.getElem?_eq_some_iff.mp ha).1
      rw [bf] at this
      omega
     rw [hj0] at ha
     cases ha
     refine ⟨y,by rw [show j=i by omega];exact hy,?_⟩
     rw [ja dl]
     exact hd7
  rintro σ H6 ⟨x,as,rfl,h6,hl,nd,hf,hv,e6⟩
  rw [af] at hl
  have s6:jq H5 H6:=λc o hc=>e6 c o hc (j4 hc hl2)
  left
  refine ⟨s2,_,rfl,vq.k (k:=.inr "leaps") (s6 _ _ h4) (by show 5<sizeLine;decide),?_⟩
  rw [Yk]
  have nas:∀{a:Addr} {o:HO},H5 a=some o->a∉as:=λh z=>by have:=(hf _ z).1;rw [h] at this;cases this
  have l2s:l2≠s2:=(j4 h4 hl2).symm
  left
  refine k s2 q2 g2 l2 as _ hs2 hq0 g20 (o4.free hl2) (λa ha=>o4.free (hf a ha).1) nd (nas hg4) (j4 hq4 hl2) hl j8 ?_ ?_ ?_ (λi a ha=>?_) (nas h4) g2s.symm λa o h=>?_
  ·rw [ja q2s];exact s6 _ _ hq4
  ·rw [ja g2s];exact s6 _ _ hg4
  ·rw [ja l2s];exact h6
  ·obtain ⟨x,h1,h2⟩:=hv i a ha
   refine ⟨x,h1,?_⟩
   have as2:a≠s2:=λz=>by subst z;exact nas h4 (au ha)
   rw [ja as2]
   exact h2
  ·rw [ja (j4 h hs2)]
   exact s6 _ _ (o4 _ _ h)
noncomputable def zJ {α:Type}(l:List (Int×α)) (y:Int):List (Int×α):=l.filter λz=>decide (z.1≠y)
theorem vi {α:Type}(f:α->V) (l:List (Int×α)) (y:Int):zg (l.map λz=>((.inl z.1,f z.2):Key×V)) (.inl y)=(zJ l y).map λz=>((.inl z.1,f z.2):Key×V):=by
 unfold zg zJ
 rw [List.filter_map]
 congr 1
 refine List.filter_congr λz _=>?_
 show decide ((dU z.1:Key)≠dU y)=decide (z.1≠y)
 exact decide_eq_decide.mpr ⟨λh e=>h (by rw [e]),λh e=>h (eM e)⟩
theorem uR {α:Type}{l:List (Int×α)}{y:Int}{z:Int×α}(h:z∈zJ l y):z∈l:=(List.mem_filter.mp h).1
theorem uZ {α:Type}{l:List (Int×α)}{y:Int}(h:(l.map (·.1)).Nodup):((zJ l y).map (·.1)).Nodup:=h.sublist (List.filter_sublist.map _)
noncomputable def x3 (c:ScN) (q2 g2 l2:Addr) (as:List Addr):ScN:={ c with q:=q2,sg:=g2,ll:=l2,lds:=as.zip (c.lds.map (·.2)) }
theorem YX {c:ScN}{q2 g2 l2:Addr}{as:List Addr}(hl:as.length=c.lds.length) {i:Nat}{x:Addr×List (Int×Int)}(h:(x3 c q2 g2 l2 as).lds[i]? = some x):as[i]? = some x.1/\∃y,c.lds[i]? = some y/\y.2=x.2:=by
 have h:(as.zip (c.lds.map (·.2)))[i]? = some x:=h
 rw [dA,aq] at h
 obtain ⟨y,hy,e⟩:=Option.map_eq_some_iff.mp h.2
 exact ⟨h.1,y,hy,e⟩
theorem uU {c:ScN}{q2 g2 l2:Addr}{as:List Addr}(hl:as.length=c.lds.length):(x3 c q2 g2 l2 as).lds.map (·.1)=as:=by
 show (as.zip (c.lds.map (·.2))).map rE=as
 rw [List.map_fst_zip]
 rw [af]
 omega
theorem XG {H H':Hp}{sd s2 q2 g2 l2:Addr}{c:ScN}{as:List Addr}(S:ScAt H sd c) (hl:as.length=c.lds.length) (h1:H' s2=some (.dK (scK c.p q2 g2 c.gl l2))) (h2:H' q2=some (.lst c.ys)) (h3:H' g2=some (.dK (c.sk.map kvA))) (h4:H' l2=some (.lst (as.map V.ref))) (h5:∀(i:Nat) a,as[i]? = some a->∃x,c.lds[i]? = some x/\H' a=some (.dK (x.2.map kvI))) (s:jq H H'):ScAt H' s2 (x3 c q2 g2 l2 as):=by
 refine ⟨h1,s _ _ S.p,(S.same s).rv,h2,(S.same s).r3,s _ _ S.gl,(S.same s).gi,?_,.inl h3,(S.same s).sk,λx hx=>?_⟩
 ·show H' l2=some (.lst ((x3 c q2 g2 l2 as).lds.map λx=>V.ref x.1))
  have e:=congrArg (iM V.ref) (uU (q2:=q2) (g2:=g2) (l2:=l2) hl)
  rw [bO] at e
  rw [h4,<- e]
  rfl
 ·obtain ⟨i,hi⟩:=List.mem_iff_getElem?.mp hx
  obtain ⟨ha,y,hy,e⟩:=YX hl hi
  obtain ⟨z,hz,h6⟩:=h5 i _ ha
  rw [hy] at hz
  cases hz
  rw [<- e]
  exact .inl h6
noncomputable def skD (c:ScN):DeedD->List (Int×Addr)
 | .tell y _ t=>qO c.sk y t
 | .plain y=>zJ c.sk y
 | _=>c.sk
noncomputable def ldD (c:ScN):DeedD->List (List (Int×Int))
 | .surge l y m=>(c.lds.map (·.2)).set l.toNat (qO (c.lds.getD l.toNat (0,[])).2 y m)
 | .calm l y=>(c.lds.map (·.2)).set l.toNat (zJ (c.lds.getD l.toNat (0,[])).2 y)
 | _=>c.lds.map (·.2)
noncomputable def tsD (c:ScN):DeedD->List T3
 | .turn ts=>ts
 | _=>c.ts
structure NewS (H:Hp) (c:ScN) (d:DeedD) (c2:ScN):Prop where
 p:c2.p=c.p
 gl:c2.gl=c.gl
 zs:c2.zs=c.zs
 rs:c2.rs=c.rs
 ws:c2.ws=c.ws
 q:H c2.q=none
 sg:H c2.sg=none
 ll:H c2.ll=none
 ld:∀x∈c2.lds,H x.1=none
 ns:∀x∈c2.lds,x.1≠c2.sg
 nd:(c2.lds.map (·.1)).Nodup
 ts:c2.ts=tsD c d
 sk:c2.sk=skD c d
 lds:c2.lds.map (·.2)=ldD c d
theorem ScAt.sgl {H:Hp}{sd:Addr}{c:ScN}{kvs:List (Key×V)}{sk':List (Int×Addr)}(S:ScAt H sd c) (h:H c.sg=some (.dK kvs)) (n:sd≠c.sg) (nl:∀x∈c.lds,x.1≠c.sg) (hg:∀z∈sk',∃t,H z.2=some (uT t)/\good t=true):ScAt (upd H c.sg (.dK (sk'.map kvA))) sd { c with sk:=sk' }:=by
 have nU:∀{b:Addr} {u v:HO},H b=some u->b≠c.sg->(upd H c.sg v) b=some u:=λh n=>by rw [ja n];exact h
 have nd:∀{b:Addr} {u v:HO},H b=some u->(∀k,u≠.dK k)->(upd H c.sg v) b=some u:=λh' d=>nU h' (jp h' h (d _))
 refine ⟨nU S.sd n,nd S.p (by walk_at "w"),S.rv.keep λa xs h'=>nd h' (by walk_at "w"),nd S.q (by walk_at "w"),jQ.imp S.r3 λ_ _ h'=>nd h' (by walk_at "w"),nd S.gl (by walk_at "w"),Paired.mapP S.gi λ_ _ ⟨a,e,q⟩=>⟨a,e,nd q (by walk_at "w")⟩,nd S.ll (by walk_at "w"),.inl j8,λz hz=>?_,λx hx=>?_⟩
 ·obtain ⟨t,h1,h2⟩:=hg z hz
  exact ⟨t,nd h1 (by walk_at "w"),h2⟩
 ·rcases S.ld x hx with h' | ⟨o,h'⟩
  ·exact .inl (nU h' (nl x hx))
  ·exact .inr ⟨o,nU h' (nl x hx)⟩
theorem ScAt.ldl {H:Hp}{sd:Addr}{c:ScN}{i:Nat}{x:Addr×List (Int×Int)}{kvs:List (Key×V)}{ns:List (Int×Int)}(S:ScAt H sd c) (hx:c.lds[i]? = some x) (h:H x.1=some (.dK kvs)) (n:sd≠x.1) (nl:c.sg≠x.1) (nd':(c.lds.map (·.1)).Nodup):ScAt (upd H x.1 (.dK (ns.map kvI))) sd { c with lds:=c.lds.set i (x.1,ns) }:=by
 have nU:∀{b:Addr} {u v:HO},H b=some u->b≠x.1->(upd H x.1 v) b=some u:=λh n=>by rw [ja n];exact h
 have nd:∀{b:Addr} {u v:HO},H b=some u->(∀k,u≠.dK k)->(upd H x.1 v) b=some u:=λh' d=>nU h' (jp h' h (d _))
 have hi:=(List.getElem?_eq_some_iff.mp hx).1
 refine ⟨nU S.sd n,nd S.p (by walk_at "w"),S.rv.keep λa xs h'=>nd h' (by walk_at "w"),nd S.q (by walk_at "w"),jQ.imp S.r3 λ_ _ h'=>nd h' (by walk_at "w"),nd S.gl (by walk_at "w"),Paired.mapP S.gi λ_ _ ⟨a,e,q⟩=>⟨a,e,nd q (by walk_at "w")⟩,?_,?_,λz hz=>?_,λy hy=>?_⟩
 ·have e:(c.lds.set i (x.1,ns)).map (λx=>V.ref x.1)=c.lds.map λx=>V.ref x.1:=by
   rw [d4]
   refine dI λj=>?_
   rw [cN]
   split
   ·next ej =>
    subst ej
    split
    ·rw [aq,hx]
     rfl
    ·next h'=>rw [af] at h';exact absurd hi h'
   ·rfl
  show (upd H x.1 _) c.ll=some (.lst ((c.lds.set i (x.1,ns)).map λx=>V.ref x.1))
  rw [e]
  exact nd S.ll (by walk_at "w")
 ·rcases S.sg with h' | ⟨o,h'⟩
  ·exact .inl (nU h' nl)
  ·exact .inr ⟨o,nU h' nl⟩
 ·obtain ⟨t,h1,h2⟩:=S.sk z hz
  exact ⟨t,nd h1 (by walk_at "w"),h2⟩
 ·obtain ⟨j,hj⟩:=List.mem_iff_getElem?.mp hy
  rw [cN] at hj
  split at hj
  ·cases hj
   exact .inl j8
  ·next ej =>
   have hjl:=(List.getElem?_eq_some_iff.mp hj).1
   have ne:y.1≠x.1:=λe=>by
    have h1:(c.lds.map (·.1))[j]? = some y.1:=by rw [aq,hj];rfl
    have h2:(c.lds.map (·.1))[i]? = some x.1:=by rw [aq,hx];rfl
    rw [e,<- h2] at h1
    exact ej ((oQ (by rw [af];exact hjl) nd').mp h1).symm
   rcases S.ld y (au hj) with h' | ⟨o,h'⟩
   ·exact .inl (nU h' ne)
   ·exact .inr ⟨o,nU h' ne⟩
theorem Ql {l:List (Addr×List (Int×Int))}{i:Nat}{x:Addr×List (Int×Int)}{ns:List (Int×Int)}(h:l[i]? = some x):(l.set i (x.1,ns)).map (·.1)=l.map (·.1):=by
 rw [d4]
 refine dI λj=>?_
 rw [cN]
 split
 ·next ej =>
  subst ej
  split
  ·rw [aq,h]
   rfl
  ·next h'=>rw [af] at h';exact absurd (List.getElem?_eq_some_iff.mp h).1 h'
 ·rfl
theorem ScAt.rwl {H:Hp}{sd q3:Addr}{c:ScN}{ys:List V}{ts:List T3}(S:ScAt H sd c) (hq:H q3=some (.lst ys)) (r:jQ H ys ts) (ns:c.sg≠sd) (nl:∀x∈c.lds,x.1≠sd):ScAt (upd H sd (.dK (scK c.p q3 c.sg c.gl c.ll))) sd { c with q:=q3,ys:=ys,ts:=ts }:=by
 have nU:∀{b:Addr} {u v:HO},H b=some u->b≠sd->(upd H sd v) b=some u:=λh n=>by rw [ja n];exact h
 have nd:∀{b:Addr} {u v:HO},H b=some u->(∀k,u≠.dK k)->(upd H sd v) b=some u:=λh' d=>nU h' (jp h' S.sd (d _))
 refine ⟨j8,nd S.p (by walk_at "w"),S.rv.keep λa xs h'=>nd h' (by walk_at "w"),nd hq (by walk_at "w"),jQ.imp r λ_ _ h'=>nd h' (by walk_at "w"),nd S.gl (by walk_at "w"),Paired.mapP S.gi λ_ _ ⟨a,e,q⟩=>⟨a,e,nd q (by walk_at "w")⟩,nd S.ll (by walk_at "w"),?_,λz hz=>?_,λy hy=>?_⟩
 ·rcases S.sg with h' | ⟨o,h'⟩
  ·exact .inl (nU h' ns)
  ·exact .inr ⟨o,nU h' ns⟩
 ·obtain ⟨t,h1,h2⟩:=S.sk z hz
  exact ⟨t,nd h1 (by walk_at "w"),h2⟩
 ·rcases S.ld y hy with h' | ⟨o,h'⟩
  ·exact .inl (nU h' (nl y hy))
  ·exact .inr ⟨o,nU h' (nl y hy)⟩
noncomputable def Vu:Sp:=λvs H Q _=>∃(sd a:Addr) (c:ScN) (d:DeedD),vs=[.ref sd,.ref a]/\ScAt H sd c/\c.lds.length=c.ws.length/\c.lds.length<=100/\c.sk.length<=900/\(∀x∈c.lds,x.2.length<=900)/\xG H a d/\vo c d=none /\
 ∀(s2:Addr) (c2:ScN) (H':Hp),NewS H c d c2->ScAt H' s2 c2->H s2=none->jq H H'->Q (.ref s2) H'
theorem yv:FnScope ["_law_scene_here","_law_deed"] ["_law_scene_here","_law_deed"] (j9 zt):=by walk_at "s"
theorem QG {f:Addr}{fd:FuncData}(nb:Nb2 mg) (c_law_scene_copy:Cal P w K mg base 1 "_law_scene_copy" ["_law_scene_here"] Ve)
  (F:Fun K "_law_ice_step" "_law_ice_step" zt f fd):FnOk P w K mg base CX0 2 f fd ["_law_scene_here","_law_deed"] Vu:=by
 refine F.ok yv (λvs H Q E h=>?_) (λcdv A outer s H vs Q E hr h=>?_)
 ·obtain ⟨sd,a,c,d,rfl,_⟩:=h
  rfl
 ·obtain ⟨sd,a,c,d,rfl,S,hld,l100,sk9,ld9,D,due,k⟩:=h
  refine ⟨_,(j7 (ju 0 yv.nd (je c_law_scene_copy (hr.mono ⋯) rfl (j2 (pv 0) j5)))
   (j7 (jB (jn qh (jk (jx K) (pv 1) j6 (λ_ _=>rfl)) jc (jt _)) (jb (xf (jJ hr) (pv 0) jc (jL (qa K) rfl nb.b_list bz (j2 (jk (jx K) (pv 1) j6 (λ_ _=>rfl)) j5)) rfl)) (jb (jB (jn qh (jk (jx K) (pv 1) j6 (λ_ _=>rfl)) jc (jt _)) (jb (xf (jJ hr) (jA (jJ hr) (pv 0) jc (λ_ _=>rfl)) (jk (jx K) (pv 1) j6 (λ_ _=>rfl)) (jk (jx K) (pv 1) j6 (λ_ _=>rfl)) rfl)) (jb (jB (jn qh (jk (jx K) (pv 1) j6 (λ_ _=>rfl)) jc (jt _)) (jb (qi (Qs (jA (jJ hr) (pv 0) jc (λ_ _=>rfl)) (jk (jx K) (pv 1) j6 (λ_ _=>rfl)) ⟨rfl,rfl,rfl,rfl⟩))) (jb (jB (jn qh (jk (jx K) (pv 1) j6 (λ_ _=>rfl)) jc (jt _)) (jb (xf (jJ hr) (jk (jf K) (jA (jJ hr) (pv 0) jc (λ_ _=>rfl)) (jk (jx K) (pv 1) j6 (λ_ _=>rfl)) (λ_ _=>rfl)) (jk (jx K) (pv 1) j6 (λ_ _=>rfl)) (jk (jx K) (pv 1) j6 (λ_ _=>rfl)) rfl)) (jb (qi (Qs (jk (jf K) (jA (jJ hr) (pv 0) jc (λ_ _=>rfl)) (jk (jx K) (pv 1) j6 (λ_ _=>rfl)) (λ_ _=>rfl)) (jk (jx K) (pv 1) j6 (λ_ _=>rfl)) ⟨rfl,rfl,rfl,rfl⟩))))))))))
   (jb (jj (pv 0))))),?_⟩
  left
  refine ⟨sd,c,rfl,S,l100,λs2 q2 g2 l2 as H1 ns2 nq2 ng2 nl2 nas ndas ga ql hal hs2 hq2 hg2 hl2 has sas sg2 s1=>?_⟩
  have S1:=XG S hal hs2 hq2 hg2 hl2 has s1
  have S0:=S.same s1
  have hcl:=uU (c:=c) (q2:=q2) (g2:=g2) (l2:=l2) hal
  have lns:∀x∈(x3 c q2 g2 l2 as).lds,x.1∈as:=λx hx=>by rw [<- hcl];exact List.mem_map.mpr ⟨x,hx,rfl⟩
  have nlg:∀x∈(x3 c q2 g2 l2 as).lds,x.1≠(x3 c q2 g2 l2 as).sg:=λx hx e=>ga (by rw [<- show x.1=g2 from e];exact lns x hx)
  have nls:∀x∈(x3 c q2 g2 l2 as).lds,x.1≠s2:=λx hx e=>sas (e ▸ lns x hx)
  have hlf:∀x∈(x3 c q2 g2 l2 as).lds,H x.1=none:=λx hx=>nas _ (lns x hx)
  have hndl:((x3 c q2 g2 l2 as).lds.map (·.1)).Nodup:=by rw [hcl];exact ndas
  have hl2':(x3 c q2 g2 l2 as).lds.map (·.2)=c.lds.map (·.2):=by
   show (as.zip (c.lds.map (·.2))).map lB=_
   rw [lC]
   rw [af]
   omega
  have hsg1:qr H1 s2 (.str "single") (some (.ref g2)):=by rw [<- xF c.p q2 g2 c.gl l2];exact qr.k (k:=.inr "single") hs2
  have hlp1:qr H1 s2 (.str "leaps") (some (.ref l2)):=by rw [<- za c.p q2 g2 c.gl l2];exact qr.k (k:=.inr "leaps") hs2
  cases d with
  | turn ts =>
   obtain ⟨q,xs,ha,hq,r,tl1,tl2⟩:=D
   have ha1:=s1 _ _ ha
   left
   refine ⟨q,xs,rfl,.inl (SqL.of (s1 _ _ hq)),λq3 H2 nq3 hq3 s2'=>?_⟩
   left
   have hs22:=s2' _ _ hs2
   refine ⟨s2,_,rfl,vq.k (k:=.inr "rows") hs22 (by show 5<sizeLine;decide),?_⟩
   rw [QC]
   have S2:=S1.same s2'
   have S3:=S2.rwl hq3 (jQ.imp r λ_ _ h=>s2' _ _ (s1 _ _ h)) sg2.symm nls
   left
   exact k s2 { x3 c q2 g2 l2 as with q:=q3,ys:=xs,ts:=ts } _ ⟨rfl,rfl,rfl,rfl,rfl,s1.free nq3,ng2,nl2,hlf,nlg,hndl,rfl,rfl,hl2'⟩ S3 ns2 (λb u h=>by rw [ja (j4 h ns2)];exact s2' _ _ (s1 _ _ h))
  | tell y r t =>
   obtain ⟨ha,ht⟩:=D
   have ha1:=s1 _ _ ha
   left
   refine ⟨s2,.ref g2,rfl,hsg1,?_⟩
   left
   refine ⟨g2,_,rfl,vq.k (k:=.inl y) hg2 (by rw [af];exact jh ()),?_⟩
   have ep:qt (c.sk.map kvA) (.inl y) (.ref t)=(qO c.sk y t).map kvA:=zm V.ref c.sk y t
   rw [ep]
   have hgr:good r=true:=by
    cases eg:good r with
    | true=>rfl
    | false =>
     have due:(if 0<=y/\y<=99 then (if good r=true then none else some _) else some _)=(none:Option Str):=due
     rw [eg] at due
     split at due <;> cases due
   have S2:=S1.sgl (sk':=qO c.sk y t) hg2 sg2 nlg (λz hz=>by
    rcases ya hz with h | rfl
    ·exact S0.sk z h
    ·exact ⟨r,s1 _ _ ht,hgr⟩)
   left
   exact k s2 { x3 c q2 g2 l2 as with sk:=qO c.sk y t } _ ⟨rfl,rfl,rfl,rfl,rfl,nq2,ng2,nl2,hlf,nlg,hndl,rfl,rfl,hl2'⟩ S2 ns2 (λb u h=>by rw [ja (j4 h ng2)];exact s1 _ _ h)
  | plain y =>
   have ha1:H1 a=some (.tup [.str "plain",.int y]):=s1 _ _ D
   left
   refine ⟨s2,.ref g2,rfl,hsg1,?_⟩
   left
   refine ⟨.inl ⟨_,.inl hg2⟩,?_⟩
   left
   have hm:y∈c.sk.map (·.1):=by
    by_cases hm:y∈c.sk.map (·.1)
    ·exact hm
    ·have due:(if 0<=y/\y<=99 then (if y∈c.sk.map (·.1) then none else some _) else some _)=(none:Option Str):=due
     rw [if_neg hm] at due
     split at due <;> cases due
   obtain ⟨v,hv⟩:=Option.isSome_iff_exists.mp ((wJ c.sk y).trans (decide_eq_true hm))
   refine ⟨_,.inl y,v,hg2,rfl,hv,?_⟩
   rw [show zg (c.sk.map kvA) (.inl y)=(zJ c.sk y).map kvA from vi V.ref c.sk y]
   have S2:=S1.sgl (sk':=zJ c.sk y) hg2 sg2 nlg (λz hz=>S0.sk z (uR hz))
   left
   exact k s2 { x3 c q2 g2 l2 as with sk:=zJ c.sk y } _ ⟨rfl,rfl,rfl,rfl,rfl,nq2,ng2,nl2,hlf,nlg,hndl,rfl,rfl,hl2'⟩ S2 ns2 (λb u h=>by rw [ja (j4 h ng2)];exact s1 _ _ h)
  | surge l y m =>
   have ha1:H1 a=some (.tup [.str "surge",.int l,.int y,.int m]):=s1 _ _ D
   left
   refine ⟨s2,.ref l2,rfl,hlp1,?_⟩
   left
   have due':=due
   have hl:0<=l/\l<(c.ws.length:Int):=by
    by_cases hl:0<=l/\l<(c.ws.length:Int)
    ·exact hl
    ·have due:(if 0<=l/\l<(c.ws.length:Int) then _ else some _)=(none:Option Str):=due
     rw [if_neg hl] at due
     cases due
   have hi:l.toNat<c.lds.length:=()
   obtain ⟨xa,hxa⟩:∃xa,as[l.toNat]? = some xa:=⟨_,ag ()⟩
   obtain ⟨x,hx,hxH⟩:=has _ _ hxa
   have hgx:c.lds.getD l.toNat (0,[])=x:=by rw [ao,hx];rfl
   have hx9:=ld9 _ (au hx)
   have hcx:(x3 c q2 g2 l2 as).lds[l.toNat]? = some (xa,x.2):=by
    show (as.zip (c.lds.map (·.2)))[l.toNat]? = _
    rw [dA,aq,hx]
    exact ⟨hxa,rfl⟩
   have hxm:=au hcx
   refine ⟨_,_,_,_,rfl,rfl,SqL.of hl2,qG (v:=V.ref xa) hl.1 (by rw [aq,hxa];rfl),?_⟩
   left
   refine ⟨xa,_,rfl,vq.k (k:=.inl y) hxH (by rw [af];exact jh ()),?_⟩
   rw [show qt (x.2.map kvI) (.inl y) (.int m)=(qO x.2 y m).map kvI from zm V.int x.2 y m]
   have S2:=S1.ldl (ns:=qO x.2 y m) hcx hxH (nls _ hxm).symm (nlg _ hxm).symm hndl
   left
   refine k s2 { x3 c q2 g2 l2 as with lds:=(x3 c q2 g2 l2 as).lds.set l.toNat (xa,qO x.2 y m) } _ ⟨rfl,rfl,rfl,rfl,rfl,nq2,ng2,nl2,λz hz=>?_,λz hz=>?_,?_,rfl,rfl,?_⟩ S2 ns2 (λb u h=>by rw [ja (j4 h (hlf _ hxm))];exact s1 _ _ h)
   ·rcases ck hz with h | rfl
    ·exact hlf _ h
    ·exact hlf (xa,x.2) hxm
   ·rcases ck hz with h | rfl
    ·exact nlg _ h
    ·exact nlg (xa,x.2) hxm
   ·rw [Ql hcx]
    exact hndl
   ·show ((x3 c q2 g2 l2 as).lds.set l.toNat _).map (·.2)=(c.lds.map (·.2)).set l.toNat _
    rw [d4,hl2',hgx]
  | calm l y =>
   have ha1:H1 a=some (.tup [.str "calm",.int l,.int y]):=s1 _ _ D
   left
   refine ⟨s2,.ref l2,rfl,hlp1,?_⟩
   left
   have due':=due
   have hl:0<=l/\l<(c.ws.length:Int):=by
    by_cases hl:0<=l/\l<(c.ws.length:Int)
    ·exact hl
    ·have due:(if 0<=l/\l<(c.ws.length:Int) then _ else some _)=(none:Option Str):=due
     rw [if_neg hl] at due
     cases due
   have hi:l.toNat<c.lds.length:=()
   obtain ⟨xa,hxa⟩:∃xa,as[l.toNat]? = some xa:=⟨_,ag ()⟩
   obtain ⟨x,hx,hxH⟩:=has _ _ hxa
   have hgx:c.lds.getD l.toNat (0,[])=x:=by rw [ao,hx];rfl
   have hx9:=ld9 _ (au hx)
   have hcx:(x3 c q2 g2 l2 as).lds[l.toNat]? = some (xa,x.2):=by
    show (as.zip (c.lds.map (·.2)))[l.toNat]? = _
    rw [dA,aq,hx]
    exact ⟨hxa,rfl⟩
   have hxm:=au hcx
   refine ⟨_,_,_,_,rfl,rfl,SqL.of hl2,qG (v:=V.ref xa) hl.1 (by rw [aq,hxa];rfl),?_⟩
   left
   refine ⟨.inl ⟨_,.inl hxH⟩,?_⟩
   left
   have hm:y∈x.2.map (·.1):=by
    by_cases hm:y∈x.2.map (·.1)
    ·exact hm
    ·have due:(if 0<=l/\l<(c.ws.length:Int) then (if 0<=y/\y<=99 then (if y∈(c.lds.getD l.toNat (0,[])).2.map (·.1) then none else some _) else some _) else some _)=(none:Option Str):=due
     rw [hgx,if_pos hl,if_neg hm] at due
     split at due <;> cases due
   obtain ⟨v,hv⟩:=Option.isSome_iff_exists.mp ((kG x.2 y).trans (decide_eq_true hm))
   refine ⟨_,.inl y,v,hxH,rfl,hv,?_⟩
   rw [show zg (x.2.map kvI) (.inl y)=(zJ x.2 y).map kvI from vi V.int x.2 y]
   have S2:=S1.ldl (ns:=zJ x.2 y) hcx hxH (nls _ hxm).symm (nlg _ hxm).symm hndl
   left
   refine k s2 { x3 c q2 g2 l2 as with lds:=(x3 c q2 g2 l2 as).lds.set l.toNat (xa,zJ x.2 y) } _ ⟨rfl,rfl,rfl,rfl,rfl,nq2,ng2,nl2,λz hz=>?_,λz hz=>?_,?_,rfl,rfl,?_⟩ S2 ns2 (λb u h=>by rw [ja (j4 h (hlf _ hxm))];exact s1 _ _ h)
   ·rcases ck hz with h | rfl
    ·exact hlf _ h
    ·exact hlf (xa,x.2) hxm
   ·rcases ck hz with h | rfl
    ·exact nlg _ h
    ·exact nlg (xa,x.2) hxm
   ·rw [Ql hcx]
    exact hndl
   ·show ((x3 c q2 g2 l2 as).lds.set l.toNat _).map (·.2)=(c.lds.map (·.2)).set l.toNat _
    rw [d4,hl2',hgx]
structure Pr (C L b sd p:Addr) (c:ScN) (g:IceG) (H:Hp):Prop where
 B:jC L H b
 S:ScAt H sd c
 I:IceAt C H p g
 O:ScOk b c
 k:Lk c g
 va:g.va≠b
 cy:g.cy≠b
 sl:g.sl≠b
 le:g.le≠b
 zs:V.ref b∉g.zs
 ad:∀a,(a=g.ye\/∃x∈g.lds,x.1=a)->a≠sd/\¬c.D a
theorem Pr.same {C L b sd p:Addr}{c:ScN}{g:IceG}{H H':Hp}(P:Pr C L b sd p c g H) (s:jq H H'):Pr C L b sd p c g H':=⟨P.B.same s,P.S.same s,P.I.same s,P.O,P.k,P.va,P.cy,P.sl,P.le,P.zs,P.ad⟩
theorem Pr.box {C L b sd p:Addr}{c:ScN}{g:IceG}{H H':Hp}(P:Pr C L b sd p c g H) (B:jC L H' b) (X:Ext b H H'):Pr C L b sd p c g H':=by
 have kt:=xK P.B X
 obtain ⟨ns,a0,r0,c0,d0,hb,_⟩:=P.B
 have nl:∀{a:Addr} {u:HO},H a=some u->(∀xs,u≠.lst xs)->H' a=some u:=λh d=>X _ _ h (jp h hb (d _))
 refine ⟨B,P.S.ext P.O ⟨ns,a0,r0,c0,d0,hb,‹_›⟩ X,⟨nl P.I.ob (by walk_at "w"),X _ _ P.I.va P.va,P.I.rs.keep kt,X _ _ P.I.cy P.cy,jQ.imp P.I.rows λ_ _ h=>kt _ _ h,X _ _ P.I.sl P.sl,?_,nl P.I.ye (by walk_at "w"),X _ _ P.I.le P.le,λx hx=>nl (P.I.lds x hx) (by walk_at "w")⟩,P.O,P.k,P.va,P.cy,P.sl,P.le,P.zs,P.ad⟩
 exact pmM P.I.slopes λv hv w ⟨a,e,h⟩=>⟨a,e,X _ _ h λz=>P.zs (by rw [<- z,<- e];exact hv)⟩
theorem Pr.fr {C L b sd p:Addr}{c:ScN}{g:IceG}{H H':Hp}(P:Pr C L b sd p c g H) (f:FrM c.D H H'):Pr C L b sd p c g H':=by
 have at_:∀{a:Addr} {u:HO},H a=some u->(∀k,u≠.dK k)->H' a=some u:=λh d=>f.at h d
 have dk:∀{a:Addr} {u:HO},H a=some u->¬c.D a->H' a=some u:=λ{a u} h n=>by
  rcases f a u h with z | ⟨m,_⟩
  ·exact z
  ·exact absurd m n
 exact ⟨jC.frM P.B f,P.S.frM f,⟨at_ P.I.ob (by walk_at "w"),at_ P.I.va (by walk_at "w"),P.I.rs.keep (FrM.keepT f),at_ P.I.cy (by walk_at "w"),jQ.imp P.I.rows λ_ _ h=>at_ h (by walk_at "w"),at_ P.I.sl (by walk_at "w"),Paired.mapP P.I.slopes λ_ _ ⟨a,e,q⟩=>⟨a,e,at_ q (by walk_at "w")⟩,dk P.I.ye (P.ad _ (.inl rfl)).2,at_ P.I.le (by walk_at "w"),λx hx=>dk (P.I.lds x hx) (P.ad _ (.inr ⟨x,hx,rfl⟩)).2⟩,P.O,P.k,P.va,P.cy,P.sl,P.le,P.zs,P.ad⟩
theorem Pr.due {c:ScN}{g:IceG}(k:Lk c g) (hld:c.lds.length=c.ws.length) (d:DeedD) (hd:∀ts,d = .turn ts->gr ts=ts.all good):Qh g d=vo c d:=by
 have hsl:g.slopes.length=c.ws.length:=by rw [k.sl,af]
 cases d with
 | turn ts =>
  simp only [Qh,vo]
  rw [hd ts rfl]
 | tell y r t=>rfl
 | plain y =>
  simp only [Qh,vo]
  rw [k.kv,wJ]
  by_cases hm:y∈c.sk.map (·.1)
  ·rw [decide_eq_true hm,if_pos rfl,if_pos hm]
  ·rw [decide_eq_false hm,if_neg ar,if_neg hm]
 | surge l y m =>
  simp only [Qh,vo]
  rw [hsl]
 | calm l y =>
  simp only [Qh,vo]
  rw [hsl]
  by_cases hl:0<=l/\l<(c.ws.length:Int)
  ·rw [if_pos hl,if_pos hl]
   have hi:l.toNat<g.lds.length:=by rw [k.ll];omega
   obtain ⟨y',hy',e⟩:=k.ld l.toNat _ (ag hi)
   have e1:(g.lds.getD l.toNat (0,[])).2=y'.2.map kvI:=by rw [ao,ag hi];exact e
   have e2:c.lds.getD l.toNat (0,[])=y':=by rw [ao,hy'];rfl
   rw [e1,e2,kG]
   by_cases hm:y∈y'.2.map (·.1)
   ·rw [decide_eq_true hm,if_pos rfl,if_pos hm]
   ·rw [decide_eq_false hm,if_neg ar,if_neg hm]
  ·rw [if_neg hl,if_neg hl]
theorem Pr.done {C L b sd p:Addr}{c:ScN}{g:IceG}{H H1:Hp}(P:Pr C L b sd p c g H) (f:FrI p g H H1):jC L H1 b/\ScAt H1 sd c:=by
 have at_:∀{a:Addr} {u:HO},H a=some u->(∀x y z,u≠.ins x y z)->(∀k,u≠.dK k)->H1 a=some u:=λh d1 d2=>f _ _ h (jp h P.I.ob (d1 _ _ _)) (jp h P.I.ye (d2 _)) λx hx=>jp h (P.I.lds x hx) (d2 _)
 have dk:∀{a:Addr} {k:List (Key×V)},H a=some (.dK k)->(a=sd\/c.D a)->H1 a=some (.dK k):=λ{a k} h n=>by
  have na:∀{e:Addr},(e=g.ye\/∃x∈g.lds,x.1=e)->a≠e:=λ{e} he z=>by
   have:=P.ad e he
   rcases n with n | n
   ·exact this.1 (z.symm.trans n)
   ·exact this.2 (z ▸ n)
  exact f _ _ h (jp h P.I.ob (by walk_at "z")) (na (.inl rfl)) λx hx=>na (.inr ⟨x,hx,rfl⟩)
 have kt:jy H H1:=λa xs h=>at_ h (by intro _ _ _ z;cases z) (by walk_at "w")
 have rd:∀{a:Addr} {k:List (Key×V)},Rd H a (.dK k)->c.D a->Rd H1 a (.dK k):=λh n=>by
  rcases h with h | ⟨o,h⟩
  ·exact .inl (dk h (.inr n))
  ·exact .inr ⟨o,at_ h (by intro _ _ _ z;cases z) (by walk_at "w")⟩
 refine ⟨?_,dk P.S.sd (.inl rfl),at_ P.S.p (by intro _ _ _ z;cases z) (by walk_at "w"),P.S.rv.keep kt,at_ P.S.q (by intro _ _ _ z;cases z) (by walk_at "w"),jQ.imp P.S.r3 λ_ _ h=>kt _ _ h,at_ P.S.gl (by intro _ _ _ z;cases z) (by walk_at "w"),Paired.mapP P.S.gi λ_ _ ⟨a,e,q⟩=>⟨a,e,at_ q (by intro _ _ _ z;cases z) (by walk_at "w")⟩,at_ P.S.ll (by intro _ _ _ z;cases z) (by walk_at "w"),rd P.S.sg (.inl rfl),λz hz=>?_,λx hx=>rd (P.S.ld x hx) (.inr ⟨x,hx,rfl⟩)⟩
 ·obtain ⟨ns,a,r,c',d,h1,h2,h3,h4⟩:=P.B
  exact ⟨ns,a,r,c',d,at_ h1 (by intro _ _ _ z;cases z) (by walk_at "w"),h2,at_ h3 (by intro _ _ _ z;cases z) (by walk_at "w"),h4⟩
 ·obtain ⟨t,h1,h2⟩:=P.S.sk z hz
  exact ⟨t,kt _ _ h1,h2⟩
theorem V1 {c:ScN}{y:Int}{r:T3}{t:Addr}(h:vo c (.tell y r t)=none):0<=y/\y<=99:=by
 by_cases z:0<=y/\y<=99
 ·exact z
 ·have h:(if 0<=y/\y<=99 then _ else some _)=(none:Option Str):=h
  rw [if_neg z] at h
  cases h
theorem Ye {c:ScN}{l y m:Int}(h:vo c (.surge l y m)=none):(0<=l/\l<(c.ws.length:Int))/\(0<=y/\y<=99)/\1<=m/\m<=9:=by
 have h:(if 0<=l/\l<(c.ws.length:Int) then (if 0<=y/\y<=99 then (if 1<=m/\m<=9 then none else some _) else some _) else some _)=(none:Option Str):=h
 by_cases z1:0<=l/\l<(c.ws.length:Int)
 ·rw [if_pos z1] at h
  by_cases z2:0<=y/\y<=99
  ·rw [if_pos z2] at h
   by_cases z3:1<=m/\m<=9
   ·exact ⟨z1,z2,z3⟩
   ·rw [if_neg z3] at h
    cases h
  ·rw [if_neg z2] at h
   cases h
 ·rw [if_neg z1] at h
  cases h
theorem JC {F G:List (Int×Int)->Prop}{c:ScN}{d:DeedD}(h:∀x∈c.lds,F x.2) (fg:∀v,F v->G v) (hs:∀l y m,d = .surge l y m->∀v,F v->G (qO v y m)) (hc:∀l y,d = .calm l y->∀v,F v->G (zJ v y)) (h0:F []):∀v∈ldD c d,G v:=by
 have old:∀v∈c.lds.map (·.2),G v:=λv hv=>by
  obtain ⟨x,hx,rfl⟩:=List.mem_map.mp hv
  exact fg _ (h x hx)
 have get:∀i,F (c.lds.getD i (0,[])).2:=λi=>by
  rw [ao]
  cases e:c.lds[i]? with
  | none=>exact h0
  | some x=>exact h x (au e)
 cases d with
 | turn ts=>exact old
 | tell y r t=>exact old
 | plain y=>exact old
 | surge l y m =>
  intro v hv
  rcases ck hv with z | rfl
  ·exact old v z
  ·exact hs l y m rfl _ (get _)
 | calm l y =>
  intro v hv
  rcases ck hv with z | rfl
  ·exact old v z
  ·exact hc l y rfl _ (get _)
theorem ZC {F:List (Int×Int)->Prop}{c:ScN}{d:DeedD}(h:∀x∈c.lds,F x.2) (hs:∀l y m,d = .surge l y m->∀v,F v->F (qO v y m)) (hc:∀l y,d = .calm l y->∀v,F v->F (zJ v y)) (h0:F []):∀v∈ldD c d,F v:=JC h (λ_ h=>h) hs hc h0
theorem Us (c:ScN) (d:DeedD):(ldD c d).length=c.lds.length:=by
 cases d <;> simp [ldD]
theorem ZO {L b:Addr}{c c2:ScN}{d:DeedD}{H:Hp}(O:ScOk b c) (N:NewS H c d c2) (B:jC L H b) (due:vo c d=none) (hd:∀ts,d = .turn ts->gr ts=true) (hk:c.sk.length+1<=40) (hm:∀x∈c.lds,x.2.length+1<=40):ScOk b c2:=by
 have all2:∀{F:List (Int×Int)->Prop},(∀v∈ldD c d,F v)->∀x∈c2.lds,F x.2:=λh x hx=>h _ (by rw [<- N.lds];exact List.mem_map.mpr ⟨x,hx,rfl⟩)
 have hts:1<=c2.ts.length/\c2.ts.length<=12/\c2.ts.all good=true:=by
  rw [N.ts]
  cases d with
  | turn ts =>
   have:=hd ts rfl
   unfold gr at this
   obtain ⟨h1,h2⟩:=Bool.and_eq_true_iff.mp this
   have h1:=of_decide_eq_true h1
   exact ⟨by show 1<=ts.length;omega,by show ts.length<=12;omega,h2⟩
  | tell y r t=>exact ⟨O.t1,O.t2,O.tg⟩
  | plain y=>exact ⟨O.t1,O.t2,O.tg⟩
  | surge l y m=>exact ⟨O.t1,O.t2,O.tg⟩
  | calm l y=>exact ⟨O.t1,O.t2,O.tg⟩
 have hsk:(c2.sk.map (·.1)).Nodup/\(∀z∈c2.sk,0<=z.1/\z.1<=99)/\c2.sk.length<=40:=by
  rw [N.sk]
  cases d with
  | tell y r t =>
   refine ⟨yg O.k1,λz hz=>?_,aF (xY _ _ _) hk⟩
   rcases ya hz with h | rfl
   ·exact O.k2 z h
   ·exact V1 due
  | plain y=>exact ⟨uZ O.k1,λz hz=>O.k2 z (uR hz),aF (bo _ _) O.k3⟩
  | turn ts=>exact ⟨O.k1,O.k2,O.k3⟩
  | surge l y m=>exact ⟨O.k1,O.k2,O.k3⟩
  | calm l y=>exact ⟨O.k1,O.k2,O.k3⟩
 refine ⟨by rw [N.rs];exact O.gr,by rw [N.rs];exact O.l1,by rw [N.rs];exact O.l8,hts.1,hts.2.1,hts.2.2,by rw [N.rs,N.ws];exact O.ro,?_,N.nd,N.ns,by rw [N.p];exact O.pb,B.ne N.q,by rw [N.gl];exact O.gb,B.ne N.ll,by rw [N.zs];exact O.zb,hsk.1,hsk.2.1,hsk.2.2,?_,?_,?_⟩
 ·have:=congrArg i8 N.lds
  rw [af,Us] at this
  rw [this,N.ws]
  exact O.ldl
 ·exact all2 (F:=λv=>(v.map (·.1)).Nodup) (ZC O.m1 (λ_ _ _ _ v h=>yg h) (λ_ _ _ v h=>uZ h) .nil)
 ·refine all2 (F:=λv=>∀z∈v,0<=z.1/\z.1<=99/\1<=z.2/\z.2<=9) (ZC O.m2 (λl y m e v h z hz=>?_) (λ_ _ _ v h z hz=>h z (uR hz)) (λz hz=>nomatch hz))
  subst e
  obtain ⟨_,h2,h3⟩:=Ye due
  rcases ya hz with q | rfl
  ·exact h z q
  ·exact ⟨h2.1,h2.2,h3.1,h3.2⟩
 ·exact all2 (F:=λv=>v.length<=40) (JC (F:=λv=>v.length+1<=40) hm (λv h=>oR h) (λ_ _ _ _ v h=>aF (xY _ _ _) h) (λ_ _ _ v h=>aF (bo _ _) (oR h)) ⋯)
theorem Wh {c:ScN}{g:IceG}(k:Lk c g):g.lds.map (·.2)=(c.lds.map (·.2)).map (iM kvI):=by
 refine dI λi=>?_
 rw [aq,aq,aq]
 cases e:g.lds[i]? with
 | none =>
  rw [List.getElem?_eq_none_iff] at e
  rw [List.getElem?_eq_none_iff.mpr (by rw [<- k.ll];exact e)]
  rfl
 | some x =>
  obtain ⟨y,hy,h⟩:=k.ld i x e
  rw [hy]
  show some x.2=some (y.2.map kvI)
  rw [h]
theorem Wp {c:ScN}{g:IceG}(e:g.lds.map (·.2)=(c.lds.map (·.2)).map (iM kvI)):g.lds.length=c.lds.length/\∀(l:Nat) x,g.lds[l]? = some x->∃y,c.lds[l]? = some y/\x.2=y.2.map kvI:=by
 refine ⟨?_,λl x hx=>?_⟩
 ·have:=congrArg i8 e
  rw [af,af,af] at this
  exact this
 ·have h:=congrArg (λs=>s[l]?) e
  rw [aq,aq,aq,hx] at h
  cases hy:c.lds[l]? with
  | none=>rw [hy] at h;cases h
  | some y =>
   rw [hy] at h
   exact ⟨y,rfl,bg h⟩
theorem gJ (l:List (Addr×List (Key×V))) (n:Nat) (kvs:List (Key×V)):(xk l n kvs).map (·.1)=l.map (·.1):=by
 unfold xk
 rw [d4]
 refine dI λj=>?_
 rw [cN]
 split
 ·next ej =>
  subst ej
  split
  ·next h =>
   rw [af] at h
   rw [aq,ao,ag h]
   rfl
  ·next h =>
   rw [List.getElem?_eq_none_iff.mpr ()]
 ·rfl
theorem VU {c c2:ScN}{d:DeedD}{g g':IceG}{H H1:Hp}(k:Lk c g) (N:NewS H1 c d c2) (G:Za H g d g'):Lk c2 g':=by
 have hl:=Wh k
 have gets:∀{n:Nat} {a:Addr} {kvs:List (Key×V)},g.lds[n]? = some (a,kvs)->kvs=(c.lds.getD n (0,[])).2.map kvI:=λ{n a kvs} h=>by
  obtain ⟨y,hy,e⟩:=k.ld n _ h
  rw [ao,hy]
  exact e
 have fin:∀{g'':IceG},g''.rs=g.rs->g''.slopes=g.slopes->g''.ye=g.ye->g''.rows=tsD c d->g''.kvs=(skD c d).map kvA->g''.lds.map (·.1)=g.lds.map (·.1)->g''.lds.map (·.2)=(ldD c d).map (iM kvI)->Lk c2 g'':=λ{g''} e1 e2 e3 e4 e5 e6 e7=>by
  rw [<- N.lds] at e7
  obtain ⟨h1,h2⟩:=Wp e7
  refine ⟨by rw [e1,N.rs];exact k.rs,by rw [e4,N.ts],by rw [e2,N.ws,N.rs];exact k.sl,by rw [e5,N.sk],h1,h2,λx hx=>?_,by rw [e6];exact k.nd⟩
  rw [e3]
  have:x.1∈g.lds.map (·.1):=by rw [<- e6];exact List.mem_map.mpr ⟨x,hx,rfl⟩
  obtain ⟨z,hz,e⟩:=List.mem_map.mp this
  rw [<- e]
  exact k.ny z hz
 cases d with
 | turn ts =>
  obtain ⟨cy,xs,_,rfl⟩:=G
  exact fin rfl rfl rfl rfl k.kv rfl hl
 | tell y r t =>
  cases G
  exact fin rfl rfl rfl k.rows (by show qt g.kvs _ _=_;rw [k.kv];exact zm V.ref c.sk y t) rfl hl
 | plain y =>
  cases G
  exact fin rfl rfl rfl k.rows (by show zg g.kvs _=_;rw [k.kv];exact vi V.ref c.sk y) rfl hl
 | surge l y m =>
  obtain ⟨a,kvs,ha,rfl⟩:=G
  refine fin rfl rfl rfl k.rows k.kv (gJ _ _ _) ?_
  show (xk g.lds l.toNat _).map (·.2)=((c.lds.map (·.2)).set l.toNat _).map (iM kvI)
  unfold xk
  rw [d4,d4,hl,gets ha]
  congr 1
  exact zm V.int (c.lds.getD l.toNat (0,[])).2 y m
 | calm l y =>
  obtain ⟨a,kvs,ha,rfl⟩:=G
  refine fin rfl rfl rfl k.rows k.kv (gJ _ _ _) ?_
  show (xk g.lds l.toNat _).map (·.2)=((c.lds.map (·.2)).set l.toNat _).map (iM kvI)
  unfold xk
  rw [d4,d4,hl,gets ha]
  congr 1
  exact vi V.int (c.lds.getD l.toNat (0,[])).2 y
theorem Yc {H:Hp}{g g':IceG}{d:DeedD}(G:Za H g d g'):g'.va=g.va/\g'.sl=g.sl/\g'.le=g.le/\g'.zs=g.zs/\(g'.cy=g.cy\/H g'.cy=none):=by
 cases d with
 | turn ts =>
  obtain ⟨cy,xs,h,rfl⟩:=G
  exact ⟨rfl,rfl,rfl,rfl,.inr h⟩
 | tell y r t =>
  cases G
  exact ⟨rfl,rfl,rfl,rfl,.inl rfl⟩
 | plain y =>
  cases G
  exact ⟨rfl,rfl,rfl,rfl,.inl rfl⟩
 | surge l y m =>
  obtain ⟨a,kvs,_,rfl⟩:=G
  exact ⟨rfl,rfl,rfl,rfl,.inl rfl⟩
 | calm l y =>
  obtain ⟨a,kvs,_,rfl⟩:=G
  exact ⟨rfl,rfl,rfl,rfl,.inl rfl⟩
theorem Pr.next {C L b sd p s2:Addr}{c c2:ScN}{g g':IceG}{d:DeedD}{H H1 H2:Hp}(P:Pr C L b sd p c g H) (G:Za H g d g') (I1:IceAt C H1 p g') (f:FrI p g H H1) (N:NewS H1 c d c2) (S2:ScAt H2 s2 c2) (n2:H1 s2=none) (s:jq H1 H2) (due:vo c d=none) (hd:∀ts,d = .turn ts->gr ts=true) (hk:c.sk.length+1<=40) (hm:∀x∈c.lds,x.2.length+1<=40):Pr C L b s2 p c2 g' H2:=by
 have B1:=(P.done f).1
 obtain ⟨e1,e2,e3,e4,e5⟩:=Yc G
 refine ⟨B1.same s,S2,I1.same s,ZO P.O N B1 due hd hk hm,VU P.k N G,by rw [e1];exact P.va,?_,by rw [e2];exact P.sl,by rw [e3];exact P.le,by rw [e4];exact P.zs,λa ha=>?_⟩
 ·rcases e5 with e | e
  ·rw [e]
   exact P.cy
  ·exact P.B.ne e
 ·obtain ⟨u,hu⟩:∃u,H1 a=some u:=by
   rcases ha with rfl | ⟨x,hx,rfl⟩
   ·exact ⟨_,I1.ye⟩
   ·exact ⟨_,I1.lds x hx⟩
  refine ⟨j4 hu n2,λz=>?_⟩
  rcases z with z | ⟨x,hx,z⟩
  ·rw [z,N.sg] at hu
   cases hu
  ·rw [<- z,N.ld x hx] at hu
   cases hu
theorem Pr.fb {C L b sd p:Addr}{c:ScN}{g:IceG}{H H':Hp}(P:Pr C L b sd p c g H) (f:Fr3 (λa=>a=b) c.D H H') (B:jC L H' b) (S:ScAt H' sd c):Pr C L b sd p c g H':=by
 obtain ⟨ns,a0,r0,c0,d0,hb,_⟩:=P.B
 have at_:∀{a:Addr} {u:HO},H a=some u->a≠b->(∀k,u≠.dK k)->H' a=some u:=λh n d=>f.at h n d
 have nl:∀{a:Addr} {u:HO},H a=some u->(∀xs,u≠.lst xs)->(∀k,u≠.dK k)->H' a=some u:=λh d1 d2=>at_ h (jp h hb (d1 _)) d2
 have dk:∀{a:Addr} {k:List (Key×V)},H a=some (.dK k)->¬c.D a->H' a=some (.dK k):=λ{a k} h n=>by
  rcases f a _ h (jp h hb (by walk_at "z")) with z | ⟨m,_⟩
  ·exact z
  ·exact absurd m n
 have kt:jy H H':=λa xs h=>nl h (by walk_at "w") (by walk_at "w")
 refine ⟨B,S,⟨nl P.I.ob (by walk_at "w") (by walk_at "w"),at_ P.I.va P.va (by walk_at "w"),P.I.rs.keep kt,at_ P.I.cy P.cy (by walk_at "w"),jQ.imp P.I.rows λ_ _ h=>kt _ _ h,at_ P.I.sl P.sl (by walk_at "w"),?_,dk P.I.ye (P.ad _ (.inl rfl)).2,at_ P.I.le P.le (by walk_at "w"),λx hx=>dk (P.I.lds x hx) (P.ad _ (.inr ⟨x,hx,rfl⟩)).2⟩,P.O,P.k,P.va,P.cy,P.sl,P.le,P.zs,P.ad⟩
 exact pmM P.I.slopes λv hv w ⟨a,e,h⟩=>⟨a,e,at_ h (λz=>P.zs (by rw [<- z,<- e];exact hv)) (by walk_at "w")⟩
theorem xG.up {H H':Hp}{a:Addr}{d:DeedD}(D:xG H a d) (h:∀b u,H b=some u->(∀k,u≠.dK k)->(∀x y z,u≠.ins x y z)->H' b=some u):xG H' a d:=by
 have kt:jy H H':=λb xs q=>h _ _ q (by walk_at "w") (by intro _ _ _ z;cases z)
 cases d with
 | turn ts =>
  obtain ⟨q,xs,h1,h2,h3,h4,h5⟩:=D
  exact ⟨q,xs,kt _ _ h1,h _ _ h2 (by walk_at "w") (by intro _ _ _ z;cases z),jQ.imp h3 λ_ _ q=>kt _ _ q,h4,h5⟩
 | tell y r t=>exact ⟨kt _ _ D.1,kt _ _ D.2⟩
 | plain y=>exact kt _ _ D
 | surge l y m=>exact kt _ _ D
 | calm l y=>exact kt _ _ D
theorem xG.gr {H:Hp}{a:Addr}{ts:List T3}(D:xG H a (.turn ts)):gr ts=ts.all good:=by
 obtain ⟨q,xs,_,_,_,h4,h5⟩:=D
 show (decide (1<=(ts.length:Int)/\(ts.length:Int)<=12) && ts.all good)=_
 rw [decide_eq_true ⟨(),()⟩]
 rfl
noncomputable def gj (C:Addr):Sp:=λvs H Q _=>∃(L b sd p:Addr) (c:ScN) (g:IceG) (n:Nat),vs=[.ref b,.ref p,.ref sd]/\Pr C L b sd p c g H/\1<=c.ws.length/\c.ws.length<=6/\n+1<=40/\c.sk.length<=n/\(∀x∈c.lds,x.2.length<=n) /\
 ∀(s2:Addr) (c2:ScN) (g2:IceG) (H':Hp),Pr C L b s2 p c2 g2 H'->c2.ws=c.ws->c2.rs=c.rs->c2.sk.length<=n+1->(∀x∈c2.lds,x.2.length<=n+1)->Q (.ref s2) H'
theorem Ur (c:ScN) (d:DeedD):(skD c d).length<=c.sk.length+1:=by
 cases d with
 | tell y r t=>exact xY _ _ _
 | plain y=>exact eL (bo _ _)
 | turn ts=>exact dH _
 | surge l y m=>exact dH _
 | calm l y=>exact dH _
theorem zf:FnScope ["_law_box_here","_law_ice","_law_scene_here","_law_deed","_law_due"] ["_law_box_here","_law_ice","_law_scene_here"] (j9 zC):=by walk_at "s"
theorem QQ {f C:Addr}{fd:FuncData}(nb:Nb2 mg) (c_law_ice_deed:Cal P w K mg base 5 "_law_ice_deed" ["_law_box_here","_law_scene_here"] V9) (c_law_ice_due:Cal P w K mg base 2 "_law_ice_due" ["_law_scene_here","_law_deed"] YA) (c_law_ice_do:Cal P w K mg base 5 "_law_ice_do" ["_law_ice","_law_deed"] (WN C)) (c_law_alike:Cal P w K mg base 3 "_law_alike" ["_law_found","_law_due"] (YU 2)) (c_law_ice_step:Cal P w K mg base 2 "_law_ice_step" ["_law_scene_here","_law_deed"] Vu)
  (F:Fun K "_law_ice_turn" "_law_ice_turn" zC f fd):FnOk P w K mg base CX0 6 f fd ["_law_box_here","_law_ice","_law_scene_here"] (gj C):=by
 refine F.ok zf (λvs H Q E h=>?_) (λcdv A outer s H vs Q E hr h=>?_)
 ·obtain ⟨L,b,sd,p,c,g,n,rfl,_⟩:=h
  rfl
 ·obtain ⟨L,b,sd,p,c,g,n,rfl,P,hw1,hw6,hn,hsk,hlds,k⟩:=h
  refine ⟨_,(j7 (ju 3 zf.nd (je c_law_ice_deed (hr.mono ⋯) rfl (j2 (pv 0) (j2 (pv 2) j5))))
   (j7 (ju 4 zf.nd (je c_law_ice_due (hr.mono ⋯) rfl (j2 (pv 2) (j2 (pv 3) j5))))
   (j7 (jB (qy (xC (je c_law_alike (hr.mono ⋯) rfl (j2 (je c_law_ice_do (hr.mono ⋯) rfl (j2 (pv 1) (j2 (pv 3) j5))) (j2 (pv 4) j5))))) (jb (jj zy)) jr)
   (j7 (jB (jn wX (pv 4) zy (jt _)) (jb (jj (je c_law_ice_step (hr.mono ⋯) rfl (j2 (pv 2) (j2 (pv 3) j5))))) jr)
   (jb (jj (pv 2))))))),?_⟩
  left
  refine ⟨L,b,sd,c,rfl,P.B,P.S,P.O,hw1,hw6,(),λx hx=>by have:=hlds x hx;omega,λa d H1 na D1 B1 S1 F1=>?_⟩
  have P1:=P.fb F1 B1 S1
  have hll:g.lds.length=g.slopes.length:=by rw [P.k.ll,P.O.ldl,P.k.sl,af]
  have hkv:g.kvs.length<=1000:=by rw [P.k.kv,af];omega
  have hg9:∀x∈g.lds,x.2.length<=1000:=λx hx=>by
   obtain ⟨i,hi⟩:=List.mem_iff_getElem?.mp hx
   obtain ⟨y,hy,e⟩:=P.k.ld i x hi
   have:=hlds y (au hy)
   rw [e,af]
   omega
  have hdue:Qh g d=vo c d:=Pr.due P.k P.O.ldl d λts e=>by subst e;exact D1.gr
  left
  refine ⟨sd,a,c,d,rfl,S1,P.O.ldl,D1,λhd0 H2 s2=>?_,λwd hwd t H2 ht s2=>?_⟩
  ·have P2:=P1.same s2
   have D2:xG H2 a d:=D1.up λb u h _ _=>s2 _ _ h
   left
   refine ⟨p,a,g,d,rfl,P2.I,hll,P.k.ny,P.k.nd,hg9,hkv,D2,λhg0 g' H3 G I3 f3=>?_,λw' hw'=>absurd (hw'.symm.trans (hdue.trans hd0)) (by walk_at "z")⟩
   have D3:xG H3 a d:=D2.up λb' u h d1 d2=>f3 _ _ h (jp h P2.I.ob (d2 _ _ _)) (jp h P2.I.ye (d1 _)) λx hx=>jp h (P2.I.lds x hx) (d1 _)
   obtain ⟨B3,S3⟩:=P2.done f3
   left
   refine ⟨_,_,.none,rfl,.non,.non,rfl,λH4 s4=>?_⟩
   left
   have D4:xG H4 a d:=D3.up λb' u h _ _=>s4 _ _ h
   refine ⟨sd,a,c,d,rfl,S3.same s4,P.O.ldl,by rw [P.O.ldl];omega,(),(λx hx=>by have:=hlds x hx;omega),D4,hd0,λs5 c2 H5 N S5 n5 s5'=>?_⟩
   left
   have f4:FrI p g H2 H4:=λb' u h q1 q2 q3=>s4 _ _ (f3 b' u h q1 q2 q3)
   refine k s5 c2 g' H5 (P2.next G (I3.same s4) f4 N S5 n5 s5' hd0 (λts e=>?_) () (λx hx=>by have:=hlds x hx;omega)) N.ws N.rs ?_ ?_
   ·subst e
    have h0:(if ts.all good=true then none else some _)=(none:Option Str):=hd0
    rw [D1.gr]
    cases eg:ts.all good with
    | true=>rfl
    | false =>
     rw [eg,if_neg ar] at h0
     cases h0
   ·rw [N.sk]
    exact aF (Ur c d) ()
   ·intro x hx
    exact JC (F:=λv=>v.length<=n) (G:=λv=>v.length<=n+1) hlds (λv h=>eL h) (λ_ _ _ _ v h=>aF (xY _ _ _) (di h)) (λ_ _ _ v h=>eL (aF (bo _ _) h)) (aO _) x.2 (by rw [<- N.lds];exact List.mem_map.mpr ⟨x,hx,rfl⟩)
  ·have P2:=P1.same s2
   have D2:xG H2 a d:=D1.up λb u h _ _=>s2 _ _ h
   left
   refine ⟨p,a,g,d,rfl,P2.I,hll,P.k.ny,P.k.nd,hg9,hkv,D2,λhg0=>absurd (hwd.symm.trans (hdue.symm.trans hg0)) (by walk_at "z"),λw' hw' t3 H3 ht3 s3=>?_⟩
   obtain rfl:w'=wd:=bg (hw'.symm.trans (hdue.trans hwd))
   left
   refine ⟨_,_,.tuple [.str "no",.str w'],rfl,.tup ht3 (.cons (.str _) (.cons (.str _) .nil)),.tup (s3 _ _ ht) (.cons (.str _) (.cons (.str _) .nil)),rfl,λH4 s4=>?_⟩
   left
   exact k sd c g H4 (P2.same (s3.trans s4)) rfl rfl () (λx hx=>eL (hlds x hx))
noncomputable def noT (w:Str):List V:=[.str "no",.str w,.str "ValueError"]
theorem Qe {H:Hp}{sd da:Addr}{c:ScN}{g:IceG}{l y:Int}{wy:List Int}{dn:List (Int×Int)}{Q:VK}{E:XK}(S:ScAt H sd c) (LF:LaneF c g l wy da dn) (k:∀H',FrM c.D H H'->Q (.int (y+yw dn y)) H'):XY [.ref sd,.int l,.int y] H Q E:=by
 have hdm:=au LF.cd
 have ell:c.lds.map (λx=>V.ref x.1)=(c.lds.map (·.1)).map V.ref:=by rw [bO];rfl
 have eda:(c.lds.map (·.1))[l.toNat]? = some da:=by rw [aq,LF.cd];rfl
 have l10:=LF.l10
 exact ⟨c.D,sd,c.p,c.q,c.sg,c.gl,c.ll,da,c.lds.map (·.1),l,_,dn,rfl,S.sd,(by rw [<- ell];exact S.ll),LF.l0,eda,S.ld _ hdm,LF.D,S.nD,(),LF.nd,λq hq=>by have:=LF.b q hq;omega,k⟩
noncomputable def vG (c:ScN) (l n y:Int):Option Str :=
 if 0<=l/\l<(c.ws.length:Int) then (if 0<=n/\n<((jm c.rs (c.ws.getD l.toNat [])).length:Int) then (if 0<=y/\y<=10 ^ 40 then none else some "BadYear") else some "NoPlace") else some "NoLane"
noncomputable def UC:Sp:=λvs H Q _=>∃(sd:Addr) (c:ScN) (l n y:Int),vs=[.ref sd,.int l,.int n,.int y]/\ScAt H sd c/\(vG c l n y=none->Q .non H)/\∀w t H',vG c l n y=some w->H t=none->H' t=some (.tup (noT w))->jq H H'->Q (.ref t) H'
theorem wr:FnScope ["_law_scene_here","_law_lane","_law_place","_law_year_here"] ["_law_scene_here","_law_lane","_law_place","_law_year_here"] (j9 zn):=by walk_at "s"
theorem Wa {f:Addr}{fd:FuncData}(nb:Nb2 mg) (F:Fun K "_law_due_spot" "_law_due_spot" zn f fd):FnOk P w K mg base CX0 1 f fd ["_law_scene_here","_law_lane","_law_place","_law_year_here"] UC:=by
 refine F.ok wr (λvs H Q E h=>?_) (λcdv A outer s H vs Q E hr h=>?_)
 ·obtain ⟨sd,c,l,n,y,rfl,_⟩:=h
  rfl
 ·obtain ⟨sd,c,l,n,y,rfl,S,k,kn⟩:=h
  have hzl:c.zs.length=c.ws.length:=(aX S.gi).trans (af _)
  have hgd:qr H sd (.str "grounds") (some (.ref c.gl)):=by rw [<- xh c.p c.q c.sg c.gl c.ll];exact qr.k (k:=.inr "grounds") S.sd
  have kl:¬(0<=l/\l<(c.ws.length:Int))->∀t H',H t=none->H' t=some (.tup (noT "NoLane"))->jq H H'->Q (.ref t) H':=λz t H'=>kn _ t H' (by unfold vG;rw [if_neg z])
  refine ⟨_,(j7 (jB (qy (qC jS wc j6 (pv 1) (jd (jg K) rfl nb.b_len aR (j2 (jA (jJ hr) (pv 0) jc (λ_ _=>rfl)) j5)))) (jb (jj (js (j2 jc (j2 jc (j2 jc j5)))))) jr)
   (j7 (jB (qy (qC jS wc j6 (pv 2) (jd (jg K) rfl nb.b_len aR (j2 (jk (jf K) (jA (jJ hr) (pv 0) jc (λ_ _=>rfl)) (pv 1) (λ_ _=>rfl)) j5)))) (jb (jj (js (j2 jc (j2 jc (j2 jc j5)))))) jr)
   (j7 (jB (qy (qC jS jS j6 (pv 3) (jo zR j6 j6))) (jb (jj (js (j2 jc (j2 jc (j2 jc j5)))))) jr)
   (jb (jj zy))))),?_⟩
  left
  refine qo (λh0=>?_) (λh0=>?_)
  ·left
   refine ⟨sd,.ref c.gl,rfl,hgd,?_⟩
   left
   refine ⟨c.gl,_,rfl,.inl (SqL.of S.gl),?_⟩
   rw [hzl]
   left
   refine xb (λh1=>?_) (λh1=>?_)
   ·left
    refine ⟨by show 3<=sizeLine;decide,λt H3 ht ht3 s3=>?_⟩
    exact kl (λz=>h1 z.2) t H3 ht ht3 s3
   ·clear kl
    have hi:l.toNat<c.zs.length:=()
    obtain ⟨gw,hgw,ga,ega,hga⟩:=Paired.get S.gi (ag hi)
    rw [aq] at hgw
    obtain ⟨wy,hwy,rfl⟩:=Option.map_eq_some_iff.mp hgw
    have ew:c.ws.getD l.toNat []=wy:=by rw [ao,hwy];rfl
    have kp:¬(0<=n/\n<((jm c.rs wy).length:Int))->∀t H',H t=none->H' t=some (.tup (noT "NoPlace"))->jq H H'->Q (.ref t) H':=λz t H'=>kn _ t H' (by unfold vG;rw [ew,if_pos ⟨h0,h1⟩,if_neg z])
    left
    refine qo (λn0=>?_) (λn0=>?_)
    ·left
     refine ⟨sd,.ref c.gl,rfl,hgd,?_⟩
     left
     refine ⟨_,_,_,_,rfl,rfl,SqL.of S.gl,qG h0 (v:=V.ref ga) (by rw [ag hi,ega]),?_⟩
     left
     refine ⟨ga,_,rfl,.inl (SqL.of hga),?_⟩
     rw [af]
     left
     refine xb (λn1=>?_) (λn1=>?_)
     ·left
      refine ⟨by show 3<=sizeLine;decide,λt H3 ht ht3 s3=>?_⟩
      exact kp (λz=>n1 z.2) t H3 ht ht3 s3
     ·clear kp
      have ky:¬(0<=y/\y<=10 ^ 40)->∀t H',H t=none->H' t=some (.tup (noT "BadYear"))->jq H H'->Q (.ref t) H':=λz t H'=>kn _ t H' (by unfold vG;rw [ew,if_pos ⟨h0,h1⟩,if_pos ⟨n0,n1⟩,if_neg z])
      left
      refine qo (λy0=>?_) (λy0=>?_)
      ·left
       refine xb (λy1=>?_) (λy1=>?_)
       ·left
        refine ⟨by show 3<=sizeLine;decide,λt H3 ht ht3 s3=>?_⟩
        exact ky (λz=>y1 z.2) t H3 ht ht3 s3
       ·left
        exact k (by unfold vG;rw [ew,if_pos ⟨h0,h1⟩,if_pos ⟨n0,n1⟩,if_pos ⟨y0,y1⟩])
      ·left
       refine ⟨by show 3<=sizeLine;decide,λt H3 ht ht3 s3=>?_⟩
       exact ky (λz=>y0 z.1) t H3 ht ht3 s3
    ·left
     refine ⟨by show 3<=sizeLine;decide,λt H3 ht ht3 s3=>?_⟩
     exact kp (λz=>n0 z.1) t H3 ht ht3 s3
  ·left
   refine ⟨by show 3<=sizeLine;decide,λt H3 ht ht3 s3=>?_⟩
   exact kl (λz=>h0 z.1) t H3 ht ht3 s3
noncomputable def YT:Sp:=λvs H Q _=>∃(L b sd:Addr) (c:ScN) (y:Int),vs=[.ref b,.ref sd,.int y]/\jC L H b/\ScAt H sd c/\ScOk b c/\1<=c.ws.length/\c.ws.length<=6/\(∀w∈c.ws,1<=(jm c.rs w).length/\(jm c.rs w).length<=30) /\
 ∀(l n y':Int) (t:Addr) (H':Hp),jC L H' b->Ext b H H'->H t=none->H' t=some (.tup [.int l,.int n,.int y'])->Q (.ref t) H'
theorem qf:FnScope ["_law_box_here","_law_scene_here","_law_year_here","_law_lane","_law_place","_law_pick"] ["_law_box_here","_law_scene_here","_law_year_here"] (j9 zd):=by walk_at "s"
theorem VM {f:Addr}{fd:FuncData}(nb:Nb2 mg) (c_law_take:Cal P w K mg base 2 "_law_take" ["_law_box_here","_law_size"] qU) (c_law_odd:Cal P w K mg base 3 "_law_odd" ["_law_box_here"] ZE) (c_law_spot:Cal P w K mg base 3 "_law_spot" ["_law_box_here","_law_scene_here"] Vf)
  (F:Fun K "_law_bent_spot" "_law_bent_spot" zd f fd):FnOk P w K mg base CX0 4 f fd ["_law_box_here","_law_scene_here","_law_year_here"] YT:=by
 refine F.ok qf (λvs H Q E h=>?_) (λcdv A outer s H vs Q E hr h=>?_)
 ·obtain ⟨L,b,sd,c,y,rfl,_⟩:=h
  rfl
 ·obtain ⟨L,b,sd,c,y,rfl,B,S,O,hw1,hw6,hg,k⟩:=h
  have hzl:c.zs.length=c.ws.length:=(aX S.gi).trans (af _)
  have Qb:∀{z a b c:Int},0<=z->z<3->∃n,atI [V.int a,V.int b,V.int c] z=some (V.int n):=λ{z a b c} h0 h1=>by
   have:z=0\/z=1\/z=2:=()
   rcases this with rfl | rfl | rfl
   ·exact ⟨a,rfl⟩
   ·exact ⟨b,rfl⟩
   ·exact ⟨c,rfl⟩
  have hgd:∀{H':Hp},ScAt H' sd c->qr H' sd (.str "grounds") (some (.ref c.gl)):=λS'=>by rw [<- xh c.p c.q c.sg c.gl c.ll];exact qr.k (k:=.inr "grounds") S'.sd
  refine ⟨_,(j7 (yB (je c_law_spot (hr.mono ⋯) rfl (j2 (pv 0) (j2 (pv 1) j5))) (xB (n:=2) K rfl (jE (ji (i:=3) qf.nd rfl (bb rfl)) (jE (ji (i:=4) qf.nd rfl (bb rfl)) qV))))
   (j7 (ju 5 qf.nd (je c_law_take (hr.mono ⋯) rfl (j2 (pv 0) (j2 j6 j5))))
   (qW (jB (PW.pt (kB (jn qh (pv 5) j6 (jt _)) (uB (jn qh (pv 5) j6 (jt _))))) (jb (ju 3 qf.nd (jk (jf K) (jz (j2 (jo xo j6 j6) (j2 (jd (jg K) rfl nb.b_len aR (j2 (jA (jJ hr) (pv 1) jc (λ_ _=>rfl)) j5)) (j2 (je c_law_odd (hr.mono ⋯) rfl (j2 (pv 0) j5)) j5)))) (je c_law_take (hr.mono ⋯) rfl (j2 (pv 0) (j2 j6 j5))) (λ_ _=>rfl)))) jr)
   (qW (jB (PW.pt (kB (jn qh (pv 5) j6 (jt _)) (kB (jn qh (pv 5) j6 (jt _)) (uB (jn qh (pv 5) j6 (jt _)))))) (jb (ju 4 qf.nd (jk (jf K) (jz (j2 (jo xo j6 j6) (j2 (jd (jg K) rfl nb.b_len aR (j2 (jk (jf K) (jA (jJ hr) (pv 1) jc (λ_ _=>rfl)) (jd (uy rfl) rfl nb.b_min sS (j2 (jd (gq rfl) rfl nb.b_max boot_max (j2 (pv 3) (j2 j6 j5))) (j2 (jo xo (jd (jg K) rfl nb.b_len aR (j2 (jA (jJ hr) (pv 1) jc (λ_ _=>rfl)) j5)) j6) j5))) (λ_ _=>rfl)) j5)) (j2 j6 j5)))) (je c_law_take (hr.mono ⋯) rfl (j2 (pv 0) (j2 j6 j5))) (λ_ _=>rfl)))) jr)
   (qW (jB (PW.pt (kB (jn qh (pv 5) j6 (jt _)) (uB (jn qh (pv 5) j6 (jt _))))) (jb (ju 2 qf.nd (jk (jf K) (jz (j2 (jo xo j6 j6) (j2 (jo qg (jo zR j6 j6) j6) (j2 (jo zR j6 j6) j5)))) (je c_law_take (hr.mono ⋯) rfl (j2 (pv 0) (j2 j6 j5))) (λ_ _=>rfl)))) jr)
   (jb (jj (js (j2 (pv 3) (j2 (pv 4) (j2 (pv 2) j5))))))))))),?_⟩
  left
  refine ⟨L,b,sd,c,rfl,B,S,O,hw1,hw6,hg,λln n wy t H1 ln0 ln1 hwy n0 n1 B1 X1 ht ht1=>?_⟩
  left
  refine ⟨t,_,rfl,SqT.of ht1,rfl,?_⟩
  refine ⟨_,_,rfl,_,_,rfl,rfl,?_⟩
  left
  refine ⟨L,b,_,rfl,B1,⟨⋯,⋯⟩,λpk H2 pk0 pk1 B2 X2=>?_⟩
  have S1:=S.ext O B X1
  have S2:=S1.ext O B1 X2
  have X2':=X1.trans X2
  clear B1 X1 X2 S1 ht1
  left
  refine ⟨λσ H3=>∃l:Int,σ=[some (.ref b),some (.ref sd),some (.int y),some (.int l),some (.int n),some (.int pk)]/\jC L H3 b/\Ext b H H3/\ScAt H3 sd c,?_,?_⟩
  ·have fin:∃l:Int,[some (V.ref b),some (.ref sd),some (.int y),some (.int ln),some (.int n),some (.int pk)]=[some (.ref b),some (.ref sd),some (.int y),some (.int l),some (.int n),some (.int pk)]/\jC L H2 b/\Ext b H H2/\ScAt H2 sd c:=⟨ln,rfl,B2,X2',S2⟩
   left
   refine qo (λ_=>?_) (λ_=>?_)
   rotate_left
   left
   refine qo (λ_=>?_) (λ_=>fin)
   all_goals
    left
    refine ⟨sd,.ref c.gl,rfl,hgd S2,?_⟩
    left
    refine ⟨c.gl,_,rfl,.inl (SqL.of S2.gl),?_⟩
    left
    refine ⟨L,b,rfl,B2,λz H3 B3 X3=>?_⟩
    left
    refine ⟨by show 3<=sizeLine;decide,λlq H4 hlq hlq4 s4=>?_⟩
    left
    refine ⟨L,b,_,rfl,B3.same s4,⟨⋯,⋯⟩,λv H5 v0 v1 B5 X5=>?_⟩
    obtain ⟨m,hm⟩:=Qb (a:=0-1) (b:=(c.zs.length:Int)) (c:=z) v0 v1
    refine ⟨_,_,_,_,rfl,rfl,SqL.of (X5 _ _ hlq4 (B3.ne hlq)),hm,?_⟩
    exact ⟨m,rfl,B5,(X2'.trans X3).trans ((Ext.of_same s4).trans X5),((S2.ext O B2 X3).same s4).ext O (B3.same s4) X5⟩
  rintro σ H3 ⟨l,rfl,B3,X3,S3⟩
  clear B2 X2' S2
  refine ⟨λσ H3=>∃l n:Int,σ=[some (.ref b),some (.ref sd),some (.int y),some (.int l),some (.int n),some (.int pk)]/\jC L H3 b/\Ext b H H3/\ScAt H3 sd c,?_,?_⟩
  ·have fin:∃l' n':Int,[some (V.ref b),some (.ref sd),some (.int y),some (.int l),some (.int n),some (.int pk)]=[some (.ref b),some (.ref sd),some (.int y),some (.int l'),some (.int n'),some (.int pk)]/\jC L H3 b/\Ext b H H3/\ScAt H3 sd c:=⟨l,n,rfl,B3,X3,S3⟩
   left
   refine qo (λ_=>?_) (λ_=>?_)
   rotate_left
   left
   refine qo (λ_=>?_) (λ_=>?_)
   rotate_left
   left
   refine qo (λ_=>?_) (λ_=>fin)
   all_goals
    left
    refine ⟨sd,.ref c.gl,rfl,hgd S3,?_⟩
    left
    refine ⟨_,_,rfl,?_⟩
    left
    refine ⟨sd,.ref c.gl,rfl,hgd S3,?_⟩
    left
    refine ⟨c.gl,_,rfl,.inl (SqL.of S3.gl),?_⟩
    left
    refine ⟨_,_,rfl,?_⟩
    obtain ⟨ix,eix,x0,x1⟩:∃ix:Int,(if (c.zs.length:Int)-1<if 0 > l then 0 else l then (c.zs.length:Int)-1 else if 0 > l then 0 else l)=ix/\0<=ix/\ix<(c.zs.length:Int):=⟨_,rfl,by split <;> split <;> omega,by split <;> split <;> omega⟩
    rw [eix]
    have hi:ix.toNat<c.zs.length:=()
    obtain ⟨gw,hgw,ga,ega,hga⟩:=Paired.get S3.gi (ag hi)
    refine ⟨_,_,_,_,rfl,rfl,SqL.of S3.gl,qG x0 (v:=V.ref ga) (by rw [ag hi,ega]),?_⟩
    left
    refine ⟨ga,_,rfl,.inl (SqL.of hga),?_⟩
    left
    refine ⟨by show 3<=sizeLine;decide,λlq H4 hlq hlq4 s4=>?_⟩
    left
    refine ⟨L,b,_,rfl,B3.same s4,⟨⋯,⋯⟩,λv H5 v0 v1 B5 X5=>?_⟩
    obtain ⟨m,hm⟩:=Qb (a:=0-1) (b:=((gw.map V.int).length:Int)) (c:=31) v0 v1
    refine ⟨_,_,_,_,rfl,rfl,SqL.of (X5 _ _ hlq4 (B3.ne hlq)),hm,?_⟩
    exact ⟨l,m,rfl,B5,X3.trans ((Ext.of_same s4).trans X5),(S3.same s4).ext O (B3.same s4) X5⟩
  rintro σ H3 ⟨l,n,rfl,B3,X3,S3⟩
  refine ⟨λσ H3=>∃l n y:Int,σ=[some (.ref b),some (.ref sd),some (.int y),some (.int l),some (.int n),some (.int pk)]/\jC L H3 b/\Ext b H H3,?_,?_⟩
  ·have fin:∃l' n' y':Int,[some (V.ref b),some (.ref sd),some (.int y),some (.int l),some (.int n),some (.int pk)]=[some (.ref b),some (.ref sd),some (.int y'),some (.int l'),some (.int n'),some (.int pk)]/\jC L H3 b/\Ext b H H3:=⟨l,n,y,rfl,B3,X3⟩
   left
   refine qo (λ_=>?_) (λ_=>?_)
   rotate_left
   left
   refine qo (λ_=>?_) (λ_=>fin)
   all_goals
    left
    refine ⟨by show 3<=sizeLine;decide,λlq H4 hlq hlq4 s4=>?_⟩
    left
    refine ⟨L,b,_,rfl,B3.same s4,⟨⋯,⋯⟩,λv H5 v0 v1 B5 X5=>?_⟩
    obtain ⟨m,hm⟩:=Qb (a:=0-1) (b:=10 ^ (40:Int).toNat+1) (c:=10 ^ (40:Int).toNat) v0 v1
    refine ⟨_,_,_,_,rfl,rfl,SqL.of (X5 _ _ hlq4 (B3.ne hlq)),hm,?_⟩
    exact ⟨l,n,m,rfl,B5,X3.trans ((Ext.of_same s4).trans X5)⟩
  rintro σ H4 ⟨l,n,y',rfl,B4,X4⟩
  left
  refine ⟨by show 3<=sizeLine;decide,λt' H5 ht5 ht55 s5=>?_⟩
  have tb:t'≠b:=B4.ne ht5
  exact k l n y' t' H5 (B4.same s5) (X4.trans (Ext.of_same s5)) (X4.free ht5 tb) ht55
noncomputable def YZ (C:Addr):Sp:=λvs H Q _=>∃(p:Addr) (g:IceG) (l y:Int),vs=[.ref p,.int l,.int y]/\IceAt C H p g/\g.lds.length=g.slopes.length/\(l<0\/(g.slopes.length:Int)<=l->∀t H',H' t=some (.tup (noT "NoLane"))->jq H H'->Q (.ref t) H') /\
 (0<=l->l<(g.slopes.length:Int)->∃ns,Xm g l ns/\(y<0\/10 ^ 40<y->∀t H',H' t=some (.tup (noT "BadYear"))->jq H H'->Q (.ref t) H')/\∀H',jq H H'->0<=y->y<=10 ^ 40->Q (.int (y+yw ns y)) H')
theorem qK:FnScope ["_law_ice","_law_lane","_law_year_here","_law_found","_law_e"] ["_law_ice","_law_lane","_law_year_here"] (j9 zq):=by walk_at "s"
theorem Q5 {f C CN CP CY CB CF:Addr}{fd:FuncData}(e_FirnError:mg "FirnError" = some (.ref CF)) (m_NoLane:bR K (.ref CN) (.ref CF)=some true) (m_BadYear:bR K (.ref CY) (.ref CF)=some true)
  (rN:RefK K CY CN CP CB CN false true false false) (rY:RefK K CY CN CP CB CY true false false false)
  (c_ridden:CalX P w K mg base 3 "ridden" ["ice","lane","year"] (wZ C CN CY)) (c_law_refused:CalH P w K mg base 1 "_law_refused" ["_law_e"] (gp K CY CN CP CB))
  (F:Fun K "_law_try_ride" "_law_try_ride" zq f fd):FnOk P w K mg base CX0 4 f fd ["_law_ice","_law_lane","_law_year_here"] (YZ C):=by
 refine F.ok qK (λvs H Q E h=>?_) (λcdv A outer s H vs Q E hr h=>?_)
 ·obtain ⟨p,g,l,y,rfl,_⟩:=h
  rfl
 ·obtain ⟨p,g,l,y,rfl,I,hll,kN,k⟩:=h
  refine ⟨_,(j7 (ju 3 qK.nd zy)
   (j7 (QV (i:=4) K rfl rfl e_FirnError rfl qK.nd rfl rfl (λpn J=>(jb (ju 3 qK.nd (zi c_ridden (hr.mono ⋯) vj rfl (j2 (pv 0) (j2 (pv 1) (j2 (pv 2) j5))))))) (λa oe pn=>(jb (ju 3 qK.nd (Zg c_law_refused (hr.mono (j:=1) ⋯).dp (hr.mono (j:=1) ⋯).un rfl (aE _ (List.mem_singleton.mpr rfl)) rfl (j2 (pv 4) j5))))))
   (jb (jj (pv 3))))),?_⟩
  left
  refine ⟨p,g,l,y,rfl,I,hll,(λhb=>⟨m_NoLane,λa oe eo ha=>?_⟩),λl0 l1=>?_⟩
  ·left
   refine ⟨_,eo,CN,_,_,_,_,rfl,rfl,rN,λt H2 ht s2=>?_⟩
   show vU (y4 3) _ _ _
   left
   exact kN hb t H2 ht s2
  ·obtain ⟨ns,hL,kY,k⟩:=k l0 l1
   refine ⟨ns,hL,(λH' s' hb=>⟨m_BadYear,λa oe eo ha=>?_⟩),λH' s' y0 y1=>?_⟩
   ·left
    refine ⟨_,eo,CY,_,_,_,_,rfl,rfl,rY,λt H2 ht s2=>?_⟩
    show vU (y4 3) _ _ _
    left
    exact kY hb t H2 ht (s'.trans s2)
   ·left
    exact k H' s' y0 y1
theorem Pr.start {C L b sd p:Addr}{c:ScN}{g:IceG}{H0 H:Hp}(W:Lw C L b sd p c g H0 H) (k:Lk c g):Pr C L b sd p c g H:=by
 have nb:∀{a:Addr},H0 a=none->a≠b:=λh=>W.B0.ne h
 refine ⟨W.B,W.S,W.I,W.O,k,nb W.F.va,nb W.F.cy,nb W.F.sl,nb W.F.le,λz=>nb (W.F.zs b z) rfl,λa ha=>?_⟩
 have h0:H0 a=none:=by
  rcases ha with rfl | ⟨x,hx,rfl⟩
  ·exact W.F.ye
  ·exact W.F.lds x hx
 refine ⟨λz=>?_,λz=>?_⟩
 ·have:=W.S0.sd
  rw [<- z,h0] at this
  cases this
 ·obtain ⟨o,h⟩:=W.S0.inD z
  rw [h0] at h
  cases h
theorem wv {H:Hp}{t:Addr}{w:Str}(h:H t=some (.tup (noT w))):Dat H (.ref t) (.tuple [.str "no",.str w,.str "ValueError"]):=.tup h (.cons (.str _) (.cons (.str _) (.cons (.str _) .nil)))
theorem Yy {c:ScN}{l n y:Int}{wy:List Int}(l0:0<=l) (l1:l<(c.ws.length:Int)) (hw:c.ws[l.toNat]? = some wy) (n0:0<=n) (n1:n<((jm c.rs wy).length:Int)):vG c l n y=if 0<=y/\y<=10 ^ 40 then none else some ("BadYear" : Str):=by
 have ew:c.ws.getD l.toNat []=wy:=by rw [ao,hw];rfl
 unfold vG
 rw [ew,if_pos ⟨l0,l1⟩,if_pos ⟨n0,n1⟩]
theorem gA {c:ScN}{l n y:Int}(h:l<0\/(c.ws.length:Int)<=l):vG c l n y=some ("NoLane" : Str):=by
 unfold vG
 rw [if_neg ()]
theorem hX {ns:List (Int×Int)}{i:Nat}{z:Int×Int}(h:ns[i]? = some z):((ns.map λq=>q.1+1).take (i+1)).map V.int=((ns.map λq=>q.1+1).take i).map V.int++[V.int (z.1+1)]:=by
 rw [bE,aq,h,aC]
 rfl
noncomputable def DueV (c:ScN) (g:IceG) (l y:Int) (H:Hp) (dv:V):Prop:=(∃w t,vG c l 0 y=some w/\dv = .ref t/\H t=some (.tup (noT w)))\/(vG c l 0 y=none/\∃wy da dn,LaneF c g l wy da dn/\dv = .int (y+yw dn y))
theorem xz:FnScope ["_law_script","_law_box_here","_law_scene_here","_law_ice","_law_turn","_law_lane","_law_leaps","_law_year_here","_law_place","_law_due"] ["_law_script"] (j9 vv):=by walk_at "s"
theorem UP {f C CN CY Pt:Addr}{fd:FuncData}(nb:Nb2 mg)
  (c_law_box:Cal P w K mg base 1 "_law_box" ["_law_script"] (YV K)) (c_law_scene:Cal P w K mg base 5 "_law_scene" ["_law_box_here"] Zo) (c_law_made:Cal P w K mg base 10 "_law_made" ["_law_scene_here"] (V6 C Pt))
  (c_law_far:Cal P w K mg base 3 "_law_far" ["_law_box_here"] UA) (c_law_ride:Cal P w K mg base 1 "_law_ride" ["_law_scene_here","_law_lane","_law_year_here"] XY)
  (c_law_alike:Cal P w K mg base 3 "_law_alike" ["_law_found","_law_due"] (YU 2)) (c_law_due_spot:Cal P w K mg base 1 "_law_due_spot" ["_law_scene_here","_law_lane","_law_place","_law_year_here"] UC) (c_law_bent_spot:Cal P w K mg base 4 "_law_bent_spot" ["_law_box_here","_law_scene_here","_law_year_here"] YT) (c_law_try_ride:Cal P w K mg base 4 "_law_try_ride" ["_law_ice","_law_lane","_law_year_here"] (YZ C)) (c_ridden:CalX P w K mg base 3 "ridden" ["ice","lane","year"] (wZ C CN CY)) (c_law_ice_turn:Cal P w K mg base 6 "_law_ice_turn" ["_law_box_here","_law_ice","_law_scene_here"] (gj C))
  (F:Fun K "law" "law" vv f fd):FnOk P w K mg base CX0 11 f fd ["_law_script"] (QZ K Pt):=by
 refine F.ok xz (λvs H Q E h=>?_) (λcdv A outer s H vs Q E hr h=>?_)
 ·obtain ⟨a,ns,rfl,_⟩:=h
  rfl
 ·obtain ⟨a,ns,rfl,hS,h63,hPt,k⟩:=h
  have T0:qI H Pt:=.inl hPt
  refine ⟨_,(j7 (ju 1 xz.nd (je c_law_box (hr.mono ⋯) rfl (j2 (pv 0) j5)))
   (j7 (ju 2 xz.nd (je c_law_scene (hr.mono ⋯) rfl (j2 (pv 1) j5)))
   (j7 (ju 3 xz.nd (je c_law_made (hr.mono ⋯) rfl (j2 (pv 2) j5)))
   (qW (xI bG rfl (qL rfl nb.b_range (j2 j6 j5)) (ji (i:=4) xz.nd rfl (bb rfl)) (j7 (xI bG rfl (Jb K rfl nb.b_enumerate (j2 (jA (jJ hr) (pv 2) jc (λ_ _=>rfl)) j5)) (xB (n:=2) K rfl (jE (ji (i:=5) xz.nd rfl (bb rfl)) (jE (ji (i:=6) xz.nd rfl (bb rfl)) qV))) (jb (xI bG rfl (qm K (jo qX (jo qX (jL (Xc K rfl) rfl nb.b_list bz (j2 (pv 6) j5)) (jW (osc:=(j9 vv)) (ON:=["_law_script","_law_box_here","_law_scene_here","_law_ice","_law_turn","_law_lane","_law_leaps","_law_year_here","_law_place","_law_due"]) (N:=["_law_when"]) (own:=1) (caps:=[]) ⟨rfl,∅,∅,∅,rfl,∅⟩ rfl rfl rfl (wE (pv 6)) (λ_ _ _ _ _=>(ji (i:=0) (show aZ (["_law_when"]:List Str) by decide +kernel) rfl (bb rfl))) (λ_ _ _ _ _=>jH) (λ_ _ _ _ _=>(jo qg (pv 0) j6)))) (jz (j2 j6 (j2 (je c_law_far (hr.mono ⋯) rfl (j2 (pv 1) j5)) j5))))) (ji (i:=7) xz.nd rfl (bb rfl)) (jb (jB (qy (xC (je c_law_alike (hr.mono ⋯) rfl (j2 (je c_ridden.cal (hr.mono ⋯) rfl (j2 (pv 3) (j2 (pv 5) (j2 (pv 7) j5)))) (j2 (je c_law_ride (hr.mono ⋯) rfl (j2 (pv 2) (j2 (pv 5) (j2 (pv 7) j5)))) j5))))) (jb (jj wb)) jr)))))
   (j7 (yB (je c_law_bent_spot (hr.mono ⋯) rfl (j2 (pv 1) (j2 (pv 2) (j2 (je c_law_far (hr.mono ⋯) rfl (j2 (pv 1) j5)) j5)))) (xB (n:=3) K rfl (jE (ji (i:=5) xz.nd rfl (bb rfl)) (jE (ji (i:=8) xz.nd rfl (bb rfl)) (jE (ji (i:=7) xz.nd rfl (bb rfl)) qV)))))
   (qW (ju 9 xz.nd (je c_law_due_spot (hr.mono ⋯) rfl (j2 (pv 2) (j2 (pv 5) (j2 j6 (j2 (pv 7) j5))))))
   (qW (jB (jn wX (pv 9) zy (jt _)) (jb (ju 9 xz.nd (je c_law_ride (hr.mono ⋯) rfl (j2 (pv 2) (j2 (pv 5) (j2 (pv 7) j5)))))) jr)
   (qW (jB (qy (xC (je c_law_alike (hr.mono ⋯) rfl (j2 (je c_law_try_ride (hr.mono ⋯) rfl (j2 (pv 3) (j2 (pv 5) (j2 (pv 7) j5)))) (j2 (pv 9) j5))))) (jb (jj wb)) jr)
   (j7 (ju 2 xz.nd (je c_law_ice_turn (hr.mono ⋯) rfl (j2 (pv 1) (j2 (pv 3) (j2 (pv 2) j5)))))
   (jb (jB (jn wX (pv 2) zy (jt _)) (jb (jj wb)) jr)))))))))
   (jb (jj wb)))))),?_⟩
  left
  refine ⟨a,ns,rfl,hS,λL b H1 hb B1 s1=>?_⟩
  have T1:=T0.same s1
  left
  refine ⟨L,b,rfl,B1,λsd H2 c B2 X2 S2 O k1 k2=>?_⟩
  have T2:=VS B1 X2 T1
  left
  refine ⟨sd,b,c,rfl,S2,O,T2,λp H3 g I3 F3 R3 T3 er et es ek el ld ny nd=>?_⟩
  have P3:Pr C L b sd p c g H3:=Pr.start (Lw.start S2 O B2 T2 I3 F3 R3) ⟨er,et,es,ek,el,ld,ny,nd⟩
  clear I3 R3 T3 F3 er et es ek el ld ny nd S2 B2 T2 X2 T1 T0 O
  left
  refine ⟨λσ H9=>True,?_,?_⟩
  ·left
   refine ⟨⋯,⋯,?_⟩
   refine zZ (λi σ H4=>∃(sd:Addr) (c:ScN) (g:IceG) (v4 v5 v6 v7 v8 v9:Option V),σ=[some (.ref a),some (.ref b),some (.ref sd),some (.ref p),v4,v5,v6,v7,v8,v9]/\Pr C L b sd p c g H4/\c.sk.length<=10+i/\∀x∈c.lds,x.2.length<=10+i) ?_ ?_ ?_
   ·exact ⟨_,_,_,_,_,_,_,_,_,rfl,P3,k1,k2⟩
   ·clear P3 k1 k2
    rintro i σ H4 hi ⟨sd,c,g,v4,v5,v6,v7,v8,v9,rfl,P4,k1,k2⟩
    have O:=P4.O
    have kk:=P4.k
    have hi4:i<4:=hi
    have hw1:1<=c.ws.length:=by
     rw [O.ro.length]
     exact gy (qp O.gr.ok) O.l1
    have hw6:c.ws.length<=6:=by rw [O.ro.length];exact O.gr.heads
    have hg30:∀w∈c.ws,1<=(jm c.rs w).length/\(jm c.rs w).length<=30:=λw hw=>⟨wB O.gr O.ro hw,(wf (O.gr.good O.l1 O.l8)).2.2.2 c.ws O.ro w hw⟩
    have hsl:g.slopes.length=c.ws.length:=by rw [kk.sl,af]
    have hll:g.lds.length=g.slopes.length:=by rw [kk.ll,O.ldl,hsl]
    have hldl:=O.ldl
    left
    refine ⟨sd,.ref c.ll,rfl,by rw [<- za c.p c.q c.sg c.gl c.ll];exact qr.k (k:=.inr "leaps") P4.S.sd,?_⟩
    left
    refine ⟨⟨_,SqL.of P4.S.ll⟩,?_⟩
    refine Q0 (K:=K) (a:=c.ll) (xs:=c.lds.map λx=>V.ref x.1) (λj σ H5=>∃v5 v6 v7:Option V,σ=[some (.ref a),some (.ref b),some (.ref sd),some (.ref p),some (.int (0+(i:Int))),v5,v6,v7,v8,v9]/\Pr C L b sd p c g H5) ?_ ?_ ?_ ?_
    ·exact ⟨_,_,_,rfl,P4⟩
    ·rintro j σ H5 hj ⟨v5,v6,v7,rfl,P5⟩
     exact SqL.of P5.S.ll
    ·rintro j v σ H5 t hv ⟨v5,v6,v7,rfl,P5⟩ ht
     rw [aq] at hv
     obtain ⟨⟨da',dn'⟩,hy,ev⟩:=Option.map_eq_some_iff.mp hv
     subst ev
     have hj:=(List.getElem?_eq_some_iff.mp hy).1
     obtain ⟨wy,da,dn,LF⟩:=kk.lane O (ln:=(j:Int)) () ()
     have hcd:=LF.cd
     rw [bL,hy] at hcd
     obtain ⟨rfl,rfl⟩:da'=da/\dn'=dn:=by
      have:=bg hcd
      exact ⟨congrArg rE this,congrArg lB this⟩
     have P6:=P5.same (jq.new (o:=.tup [.int j,.ref da']) ht)
     left
     refine ⟨t,_,rfl,SqT.of j8,rfl,?_⟩
     refine ⟨_,_,rfl,_,_,rfl,rfl,?_⟩
     left
     clear P5
     generalize upd H5 t (.tup [.int j,.ref da'])=H6 at *
     have hm:=au hy
     have haD:c.D da':=.inr ⟨_,hm,rfl⟩
     have l40:=LF.l10
     refine ⟨da',_,dn'.map (·.1),rfl,P6.S.ld _ hm,by rw [bO,bO];rfl,by rw [af];omega,λa1 H7 ha1 ha11 s7=>?_⟩
     have P7:=P6.same s7
     left
     refine ⟨da',dn'.map kvI,rfl,P7.S.ld _ hm,λo H8 f8 acc hacc=>?_⟩
     have fr8:FrM c.D H7 H8:=Xq f8 haD
     have hda8:=f8.1
     have nacc:da'≠acc:=j4 hda8 hacc
     refine vf (a:=da') (o:=o) (kvs:=dn'.map kvI) (acc:=acc) (λm σ H10=>∃x:Option V,σ=[x]/\H10 acc=some (.lst (((dn'.map λq=>q.1+1).take m).map V.int))/\Ext acc H8 H10) ?_ ?_ ?_ ?_
     ·exact ⟨none,rfl,j8,Ext.put⟩
     ·rintro m σ H10 hm' ⟨x,rfl,h10,e10⟩
      exact e10 _ _ hda8 nacc
     ·rintro m q σ H10 hq ⟨x,rfl,h10,e10⟩
      rw [aq] at hq
      obtain ⟨z,hz,rfl⟩:=Option.map_eq_some_iff.mp hq
      have hi':=(List.getElem?_eq_some_iff.mp hz).1
      left
      refine ⟨_,h10,by rw [af,aT];exact jh (),_,rfl,?_,e10.trans Ext.put⟩
      rw [j8,hX hz]
     rintro σ H10 ⟨x,rfl,h10,e10⟩
     rw [af,cg (by rw [af];exact av _)] at h10
     have fr10:FrM c.D H7 H10:=fr8.trans (FrM.of_same λc o hc=>e10 c o hc (j4 hc hacc))
     have P10:=P7.fr fr10
     have ha10:=fr10.at ha11 (by walk_at "w")
     clear fr8 hda8 nacc e10 f8 hacc fr10 P7 P6 ha1 ha11 s7
     left
     refine ⟨a1,acc,_,_,rfl,rfl,ha10,h10,by simp only [af];exact cV (jh ()),λa3 H11 ha3 ha33 s11=>?_⟩
     have P11:=P10.same s11
     have a3b:=P10.B.ne ha3
     left
     refine ⟨L,b,rfl,P11.B,λfa H12 f0 f1 B12 X12=>?_⟩
     have P12:=P11.box B12 X12
     left
     refine ⟨by show 2<=sizeLine;decide,λa4 H13 ha4 ha44 s13=>?_⟩
     left
     refine ⟨a3,a4,_,_,rfl,rfl,s13 _ _ (X12 _ _ ha33 a3b),ha44,by simp only [az,af];show _+2<=_;exact cV (jh ()),λa5 H14 ha5 ha55 s14=>?_⟩
     have P14:=(P12.same s13).same s14
     have hb9:=LF.b
     obtain ⟨ys,eys,hys⟩:∃ys:List Int,(dn'.map (·.1)).map V.int++(dn'.map λq=>q.1+1).map V.int++[V.int 0,V.int fa]=ys.map V.int/\∀y∈ys,0<=y/\y<=10 ^ 40:=by
      refine ⟨dn'.map (·.1)++(dn'.map λq=>q.1+1)++[0,fa],by rw [aC,aC];rfl,λy hy=>?_⟩
      rcases List.mem_append.mp hy with hy | hy
      ·rcases List.mem_append.mp hy with hy | hy
       ·obtain ⟨q,hq,rfl⟩:=List.mem_map.mp hy
        have:=hb9 q hq
        omega
       ·obtain ⟨q,hq,rfl⟩:=List.mem_map.mp hy
        have:=hb9 q hq
        omega
      ·have:y=0\/y=fa:=by simpa using hy
       omega
     rw [eys] at ha55
     clear eys P10 P11 P12 ha10 h10 ha33 ha44 X12 B12
     left
     refine ⟨⟨_,SqL.of ha55⟩,?_⟩
     refine kI (K:=K) (a:=a5) (xs:=ys.map V.int) (λm σ H15=>∃v7:Option V,σ=[some (.ref a),some (.ref b),some (.ref sd),some (.ref p),some (.int (0+(i:Int))),some (.int (j:Int)),some (.ref da'),v7,v8,v9]/\Pr C L b sd p c g H15/\H15 a5=some (.lst (ys.map V.int))) ?_ ?_ ?_ ?_
     ·exact ⟨_,rfl,P14,ha55⟩
     ·rintro m σ H15 hm' ⟨v7,rfl,P15,h15⟩
      exact SqL.of h15
     ·rintro m v σ H15 hv ⟨v7,rfl,P15,h15⟩
      obtain ⟨y,rfl,hy'⟩:=vJ hv
      have hyb:=hys y (au hy')
      left
      simp only [Xo,aP]
      refine ⟨p,g,(j:Int),y,rfl,P15.I,hll,(λhb=>absurd hb ()),λ_ _=>⟨dn',LF.at_,(λH' _ hb=>absurd hb ()),λH16 s16 _ _=>?_⟩⟩
      left
      simp only [Xo,aP]
      refine Qe (P15.S.same s16) LF λH17 f17=>?_
      left
      refine ⟨_,_,.int (y+yw dn' y),rfl,.int _,.int _,rfl,λH18 s18=>?_⟩
      left
      exact ⟨((P15.same s16).fr f17).same s18,s18 _ _ (f17.at (s16 _ _ h15) (by walk_at "w"))⟩
     ·rintro σ H15 ⟨v7,rfl,P15,_⟩
      exact ⟨_,_,_,rfl,P15⟩
    ·rintro σ H5 ⟨v5,v6,v7,rfl,P5⟩
     left
     refine ⟨L,b,rfl,P5.B,λfa H6 f0 f1 B6 X6=>?_⟩
     have P6:=P5.box B6 X6
     left
     refine ⟨L,b,sd,c,fa,rfl,P6.B,P6.S,O,hw1,hw6,hg30,λl2 n2 y2 t2 H7 B7 X7 ht2 ht7=>?_⟩
     have P7:=P6.box B7 X7
     left
     refine ⟨t2,_,rfl,SqT.of ht7,rfl,?_⟩
     refine ⟨_,_,rfl,_,_,rfl,_,_,rfl,rfl,?_⟩
     clear P5 P6 X6 B6 X7 B7 ht7 P4
     refine ⟨λσ H8=>∃dv,σ=[some (.ref a),some (.ref b),some (.ref sd),some (.ref p),some (.int (0+(i:Int))),some (.int l2),v6,some (.int y2),some (.int n2),some dv]/\Pr C L b sd p c g H8/\((vG c l2 0 y2=none/\dv = .non)\/∃w t,vG c l2 0 y2=some w/\dv = .ref t/\H8 t=some (.tup (noT w))),?_,?_⟩
     ·left
      simp only [Xo,aP]
      refine ⟨sd,c,l2,0,y2,rfl,P7.S,λhd=>?_,λw t3 H8 hd ht3 ht8 s8=>?_⟩
      ·exact ⟨_,rfl,P7,.inl ⟨hd,rfl⟩⟩
      ·exact ⟨_,rfl,P7.same s8,.inr ⟨w,t3,hd,rfl,ht8⟩⟩
     clear P7
     rintro σ H8 ⟨dv,rfl,P8,hdv⟩
     refine ⟨λσ H9=>∃dv,σ=[some (.ref a),some (.ref b),some (.ref sd),some (.ref p),some (.int (0+(i:Int))),some (.int l2),v6,some (.int y2),some (.int n2),some dv]/\Pr C L b sd p c g H9/\DueV c g l2 y2 H9 dv,?_,?_⟩
     ·rcases hdv with ⟨hd,rfl⟩ | ⟨w,t,hd,rfl,ht⟩
      ·obtain ⟨l20,l21⟩:0<=l2/\l2<(c.ws.length:Int):=by
        rcases Decidable.em (0<=l2/\l2<(c.ws.length:Int)) with z | z
        ·exact z
        ·rw [gA ()] at hd;cases hd
       obtain ⟨wy2,da2,dn2,LF⟩:=kk.lane O l20 l21
       left
       simp only [Xo,aP]
       refine Qe P8.S LF λH9 f9=>?_
       left
       exact ⟨P8.fr f9,.inr ⟨hd,wy2,da2,dn2,LF,rfl⟩⟩
      ·left
       exact ⟨P8,.inl ⟨w,t,hd,rfl,ht⟩⟩
     clear hdv P8 dv
     rintro σ H9 ⟨dv,rfl,P9,hdv⟩
     refine ⟨λσ H10=>σ=[some (.ref a),some (.ref b),some (.ref sd),some (.ref p),some (.int (0+(i:Int))),some (.int l2),v6,some (.int y2),some (.int n2),some dv]/\Pr C L b sd p c g H10,?_,?_⟩
     ·have hno:∀{w:Str},vG c l2 0 y2=some w->∃t,dv = .ref t/\H9 t=some (.tup (noT w)):=λ{w} e=>by
       rcases hdv with ⟨w',t,hd,h1,h2⟩ | ⟨hd,_⟩
       ·rw [e] at hd
        cases hd
        exact ⟨t,h1,h2⟩
       ·rw [e] at hd;cases hd
      left
      simp only [Xo,aP]
      refine ⟨p,g,l2,y2,rfl,P9.I,hll,(λhb t H' ht s'=>?_),λh0 h1=>?_⟩
      ·obtain ⟨u,rfl,hu⟩:=hno (gA (by rw [<- hsl];exact hb))
       left
       refine ⟨_,_,_,rfl,wv ht,wv (s' _ _ hu),rfl,λH10 s10=>?_⟩
       left
       exact P9.same (s'.trans s10)
      ·obtain ⟨wy2,da2,dn2,LF⟩:=kk.lane O h0 ()
       have g1:=LF.g1
       have hdg:=Yy (y:=y2) h0 () LF.way (Int.le_refl 0) ()
       refine ⟨dn2,LF.at_,(λhb t H' ht s'=>?_),λH' s' y0 y1=>?_⟩
       ·rw [if_neg ()] at hdg
        obtain ⟨u,rfl,hu⟩:=hno hdg
        left
        refine ⟨_,_,_,rfl,wv ht,wv (s' _ _ hu),rfl,λH10 s10=>?_⟩
        left
        exact P9.same (s'.trans s10)
       ·rw [if_pos ⟨y0,y1⟩] at hdg
        rcases hdv with ⟨w',t,hd,h1,h2⟩ | ⟨_,wy3,da3,dn3,LF3,rfl⟩
        ·rw [hdg] at hd;cases hd
        ·obtain rfl:=Xm.unique LF.at_ LF3.at_
         left
         refine ⟨_,_,.int _,rfl,.int _,.int _,rfl,λH10 s10=>?_⟩
         left
         exact P9.same (s'.trans s10)
     clear hdv P9
     rintro σ H10 ⟨rfl,P10⟩
     left
     refine ⟨L,b,sd,p,c,g,10+i,rfl,P10,hw1,hw6,(),k1,k2,λs2 c2 g2 H11 P11 _ _ k1' k2'=>?_⟩
     left
     exact ⟨s2,c2,g2,_,_,_,_,_,_,rfl,P11,k1',k2'⟩
   ·rintro σ H9 _
    trivial
  ·rintro σ H9 _
   left
   exact k H9
end
local macro_rules | `(tactic| walk_at "1")=>`(tactic| exact fun _ _ _ _ _ _ _ hl=>bnd1 hl fun _=>rfl)
local macro_rules | `(tactic| walk_at "2")=>`(tactic| exact fun _ _ _ _ _ _ _ hl=>bnd2 hl fun _ _=>rfl)
local macro_rules | `(tactic| walk_at "3")=>`(tactic| exact fun _ _ _ _ _ _ _ hl=>bnd3 hl fun _ _ _=>rfl)
local macro_rules | `(tactic| walk_at "4")=>`(tactic| exact fun _ _ _ _ _ _ _ hl=>bnd4 hl fun _ _ _ _=>rfl)
local macro_rules | `(tactic| walk_at "5")=>`(tactic| exact fun _ _ _ _ _ _ _ hl=>bnd5 hl fun _ _ _ _ _=>rfl)
local macro_rules | `(tactic| walk_at "6")=>`(tactic| exact fun _ _ _ _ _ _ _ hl=>bnd6 hl fun _ _ _ _ _ _=>rfl)
theorem UR {l:pQ}{w:aU}{K:ai}{h:Heap}{mg:Str->Option ah}{fa:Addr}(X:K.In h) (G:h.Ns mainGlobals mg) (hfa:mg "law" = some (.ref fa))
  {CI:Addr}
  {C0:Addr}
  {C1:Addr}
  {C2:Addr}
  {C3:Addr}
  {C4:Addr}
  {C5:Addr}
  {C6:Addr}
  {C7:Addr}
  {C8:Addr}
  {C9:Addr}
  {C10:Addr}
  {C11:Addr}
  {C12:Addr}
  {C13:Addr}
  {C14:Addr}
  {C15:Addr}
  {C16:Addr}
  {C17:Addr}
  {u0:Tok}
  {u1:Tok}
  {u2:Tok}
  {u3:Tok}
  {u4:Tok}
  {u5:Tok}
  {u6:Tok}
  {u7:Tok}
  {u8:Tok}
  {u9:Tok}
  {u10:Tok}
  (aCI:aQ K mainGlobals "Ice" = some (some (.ref CI))) (pgI:eS K CI Str.empty=true) (hdI:fI K CI=true) (poI:iW K CI=true) (saI:bH K (.ref CI) "__setattr__" = some (some (.builtin "object.__setattr__"))) (mkI:lX K CI=true) (kcI:bK K (.ref CI)=true)
  (na0:bH K (.ref CI) "valley" = some none)
  (na1:bH K (.ref CI) "cycle" = some none)
  (na2:bH K (.ref CI) "slopes" = some none)
  (na3:bH K (.ref CI) "years" = some none)
  (na4:bH K (.ref CI) "leaps" = some none)
  (a1:gN K "leads_on" vN)
  (a2:gN K "is_reach" yu)
  (a3:gN K "way_down" vE)
  (a4:aQ K mainGlobals "lanes" = some (some (.ref f4))) (l4:K.lookup f4=some ⟨oc4,od4,.func (bD "lanes" "lanes" (jY qS) (jO qS) (j9 qS) .none kV4 dc4 pm4 an4 (.ref cL) ct4),sl4⟩) (c4:cz K (.ref cL) "lanes" = true) (k4:bK K (.ref f4)=true) (hdL:PySem.W.codeHdIn K cL 269=true)
  (a5:gN K "way_of" wF)
  (a6:gN K "count_places" xy)
  (a7:gN K "fits" Jo)
  (a8:gN K "is_valley" zN)
  (a9:gN K "heights" vn)
  (a10:gN K "is_weather" yt)
  (a11:gN K "is_round" yl)
  (a12:gN K "check_round" zQ)
  (a13:gN K "check_told" yk)
  (a14:gM K CI "__init__" "Ice.__init__" qJ)
  (a15:gM K CI "check_lane" "Ice.check_lane" xv)
  (a16:gM K CI "tell" "Ice.tell" yO)
  (a17:gM K CI "plain" "Ice.plain" yc)
  (a18:gM K CI "surge" "Ice.surge" yr)
  (a19:gM K CI "calm" "Ice.calm" yN)
  (a20:gM K CI "turn" "Ice.turn" yX)
  (a21:gM K CI "surges" "Ice.surges" xP)
  (a22:gN K "check_asked" zT)
  (a23:gN K "ride_by" vd)
  (a24:gN K "ridden" ki)
  (a25:gN K "_law_box" ux)
  (a26:gN K "_law_mixed" yD)
  (a27:gN K "_law_take" vP)
  (a28:gN K "_law_whole" yI)
  (a29:gN K "_law_alike" xW)
  (a32:gN K "_law_far" uC)
  (a33:gN K "_law_odd" uH)
  (a34:gN K "_law_weather" zV)
  (a35:gN K "_law_round" zI)
  (a36:gN K "_law_ground_drawn" qv)
  (a37:gN K "_law_reaches" x9)
  (a38:gN K "_law_roads" xT)
  (a39:gN K "_law_ground" yp)
  (a40:gN K "_law_year" vD)
  (a41:gN K "_law_scene" xR)
  (a42:gN K "_law_made" vC)
  (a43:gN K "_law_ride" yf)
  (a44:gN K "_law_spot" vH)
  (a45:gN K "_law_refused" qN)
  (a46:gN K "_law_due_spot" zn)
  (a47:gN K "_law_bent_spot" zd)
  (a48:gN K "_law_bent_row" zD)
  (a49:gN K "_law_good_row" zr)
  (a50:gN K "_law_kinds" xj)
  (a51:gN K "_law_ice_deed" qH)
  (a52:gN K "_law_ice_due" xM)
  (a53:gN K "_law_scene_copy" qY)
  (a54:gN K "_law_ice_step" zt)
  (a55:gN K "_law_ice_do" yh)
  (a56:gN K "_law_ice_turn" zC)
  (a57:gN K "_law_try_ride" zq)
  (a58:aQ K mainGlobals "law" = some (some (.ref f58))) (l58:K.lookup f58=some ⟨oc58,od58,.func (bD "law" "law" (jY vv) (jO vv) (j9 vv) .none kV58 dc58 pm58 an58 cd58 ct58),sl58⟩) (c58:cz K cd58 "law" = true) (k58:bK K (.ref f58)=true)
  (ec0:gE K "BadValley" C0)
  (ec1:gE K "BadRound" C1)
  (ec2:gE K "BadWeather" C2)
  (ec3:gE K "BadYear" C3)
  (ec4:gE K "BadSurge" C4)
  (ec5:gE K "BadRock" C5)
  (ec6:gE K "BadName" C6)
  (ec7:gE K "BadHand" C7)
  (ec8:gE K "BadDeed" C8)
  (ec9:gE K "NoLane" C9)
  (ec10:gE K "NoPlace" C10)
  (ec11:gE K "NoName" C11)
  (ec12:gE K "NotTold" C12)
  (ec13:gE K "NothingThere" C13)
  (ec14:gE K "Taken" C14)
  (ec15:gE K "Full" C15)
  (ec16:aQ K mainGlobals "BadPage" = some (some (.ref C16)))
  (ec17:gE K "FirnError" C17)
  (mm117:bR K (.ref C1) (.ref C17)=some true)
  (mm217:bR K (.ref C2) (.ref C17)=some true)
  (mm317:bR K (.ref C3) (.ref C17)=some true)
  (mm417:bR K (.ref C4) (.ref C17)=some true)
  (mm917:bR K (.ref C9) (.ref C17)=some true)
  (mm1217:bR K (.ref C12) (.ref C17)=some true)
  (rN:RefK K C3 C9 C10 C7 C9 false true false false)
  (rY:RefK K C3 C9 C10 C7 C3 true false false false)
  (kR:KindK K [C0,C1,C2,C3,C4,C5,C6,C7,C8,C9,C10,C11,C12,C13,C14,C15,C16] C1 1)
  (kW:KindK K [C0,C1,C2,C3,C4,C5,C6,C7,C8,C9,C10,C11,C12,C13,C14,C15,C16] C2 2)
  (kY:KindK K [C0,C1,C2,C3,C4,C5,C6,C7,C8,C9,C10,C11,C12,C13,C14,C15,C16] C3 3)
  (kS:KindK K [C0,C1,C2,C3,C4,C5,C6,C7,C8,C9,C10,C11,C12,C13,C14,C15,C16] C4 4)
  (kN:KindK K [C0,C1,C2,C3,C4,C5,C6,C7,C8,C9,C10,C11,C12,C13,C14,C15,C16] C9 9)
  (kO:KindK K [C0,C1,C2,C3,C4,C5,C6,C7,C8,C9,C10,C11,C12,C13,C14,C15,C16] C12 12)
  (z0:aQ K mainGlobals "len" = some none)
  (z1:aQ K mainGlobals "range" = some none)
  (z2:aQ K mainGlobals "isinstance" = some none)
  (z3:aQ K mainGlobals "int" = some none)
  (z4:aQ K mainGlobals "bool" = some none)
  (z5:aQ K mainGlobals "str" = some none)
  (z6:aQ K mainGlobals "list" = some none)
  (z7:aQ K mainGlobals "tuple" = some none)
  (z8:aQ K mainGlobals "min" = some none)
  (z9:aQ K mainGlobals "max" = some none)
  (z10:aQ K mainGlobals "all" = some none)
  (z11:aQ K mainGlobals "zip" = some none)
  (z12:aQ K mainGlobals "enumerate" = some none)
  (z13:aQ K mainGlobals "sorted" = some none)
  (z14:aQ K mainGlobals "sum" = some none)
  (z15:aQ K mainGlobals "dict" = some none)
  (z16:aQ K mainGlobals "ValueError" = some none)
  (q0:aQ K mainGlobals "MOST_REACHES" = some (some (.int 8 u0)))
  (q1:aQ K mainGlobals "MOST_HEIGHTS" = some (some (.int 12 u1)))
  (q2:aQ K mainGlobals "GREATEST_HEIGHT" = some (some (.int 99 u2)))
  (q3:aQ K mainGlobals "MOST_LANES" = some (some (.int 6 u3)))
  (q4:aQ K mainGlobals "LONGEST_LANE" = some (some (.int 30 u4)))
  (q5:aQ K mainGlobals "HIGHEST_LINE" = some (some (.int 100 u5)))
  (q6:aQ K mainGlobals "MOST_HANDS" = some (some (.int 9 u6)))
  (q7:aQ K mainGlobals "MOST_ROWS" = some (some (.int 12 u7)))
  (q8:aQ K mainGlobals "LAST_TOLD" = some (some (.int 99 u8)))
  (q9:aQ K mainGlobals "LAST_ASKED" = some (some (.int 10000000000000000000000000000000000000000 u9)))
  (q10:aQ K mainGlobals "GREATEST_SURGE" = some (some (.int 9 u10)))
  : ∃fd:FuncData,(∀(s:Shared) (v:ah),ow s fd ⟨[v],[]⟩ [("_law_script",v)])/\∀base:Heap,K.In base->base.Ns mainGlobals mg->Bm mg base->FnOk l.prog w K mg base CX0 11 fa fd ["_law_script"] (QZ K 269):=by
 have e:=hfa.symm.trans (aM X G a58)
 cases e
 have nb:Nb2 mg:={ b_len:=bj X G z0,b_range:=bj X G z1,b_isinstance:=bj X G z2,b_int:=bj X G z3,b_bool:=bj X G z4,b_str:=bj X G z5,b_list:=bj X G z6,b_tuple:=bj X G z7,b_min:=bj X G z8,b_max:=bj X G z9,b_all:=bj X G z10,b_zip:=bj X G z11,b_enumerate:=bj X G z12,b_sorted:=bj X G z13,b_sum:=bj X G z14 }
 have b_dict:=bj X G z15
 have b_ValueError:=bj X G z16
 have g_MOST_REACHES:=aM X G q0
 have g_MOST_HEIGHTS:=aM X G q1
 have g_GREATEST_HEIGHT:=aM X G q2
 have g_MOST_LANES:=aM X G q3
 have g_LONGEST_LANE:=aM X G q4
 have g_HIGHEST_LINE:=aM X G q5
 have g_MOST_HANDS:=aM X G q6
 have g_MOST_ROWS:=aM X G q7
 have g_LAST_TOLD:=aM X G q8
 have g_LAST_ASKED:=aM X G q9
 have g_GREATEST_SURGE:=aM X G q10
 have e_BadValley:=aM X G ec0.e
 have x_BadValley:=ec0.x
 have e_BadRound:=aM X G ec1.e
 have x_BadRound:=ec1.x
 have e_BadWeather:=aM X G ec2.e
 have x_BadWeather:=ec2.x
 have e_BadYear:=aM X G ec3.e
 have x_BadYear:=ec3.x
 have e_BadSurge:=aM X G ec4.e
 have x_BadSurge:=ec4.x
 have e_BadRock:=aM X G ec5.e
 have e_BadName:=aM X G ec6.e
 have e_BadHand:=aM X G ec7.e
 have e_BadDeed:=aM X G ec8.e
 have e_NoLane:=aM X G ec9.e
 have x_NoLane:=ec9.x
 have e_NoPlace:=aM X G ec10.e
 have e_NoName:=aM X G ec11.e
 have e_NotTold:=aM X G ec12.e
 have x_NotTold:=ec12.x
 have e_NothingThere:=aM X G ec13.e
 have e_Taken:=aM X G ec14.e
 have e_Full:=aM X G ec15.e
 have e_BadPage:=aM X G ec16
 have e_FirnError:=aM X G ec17.e
 have cl_Ice:Cls K CI:=⟨pgI,hdI,poI,saI⟩
 have T_Ice:IceC K CI:=⟨cl_Ice,na0,na1,na2,na3,na4⟩
 refine ⟨bD "law" "law" (jY vv) (jO vv) (j9 vv) .none kV58 dc58 pm58 an58 cd58 ct58,λs v=>.of_eq rfl,λbase hKb _ hBm=>?_⟩
 have CH:=PySem.W.codeHd_of_K hKb hdL
 have z:Zt l.prog w K mg base:=⟨X,G⟩
 have c_leads_on:=a1.cal z (by walk_at "2") (QR)
 have c_is_reach:=a2.cal z (by walk_at "2") (Qq nb g_MOST_HEIGHTS g_GREATEST_HEIGHT c_leads_on)
 have c_way_down:=a3.cal z (by walk_at "2") (Qm nb)
 have c_lanes:Cal l.prog w K mg base 5 "lanes" ["reaches"] (vV K 269):=Cal.mkC (st:=qS) X G a4 l4 c4 k4 (by walk_at "1") (Vi nb c_way_down CH hBm l4 c4)
 have c_way_of:=a5.calX z (by walk_at "2") (Y0 nb e_NoLane x_NoLane c_lanes)
 have c_count_places:=a6.cal z (by walk_at "2") (wk nb)
 have c_fits:=a7.cal z (by walk_at "2") (Um nb g_MOST_LANES g_LONGEST_LANE c_count_places)
 have c_is_valley:=a8.cal z (by walk_at "1") (Jw nb g_MOST_REACHES c_is_reach c_lanes c_fits)
 have c_heights:=a9.calX z (by walk_at "2") (Xz nb c_way_of)
 have c_is_weather:=a10.cal z (by walk_at "1") (kP g_HIGHEST_LINE g_MOST_HANDS)
 have c_is_round:=a11.cal z (by walk_at "1") (Qj nb.toNb g_MOST_ROWS c_is_weather)
 have c_check_round:=a12.calX z (by walk_at "1") (wS nb e_BadRound x_BadRound c_is_round)
 have c_check_told:=a13.calX z (by walk_at "1") (kM g_LAST_TOLD e_BadYear x_BadYear)
 have c_Ice:=a14.mak z mkI kcI aCI (by walk_at "3") (uE nb T_Ice e_BadValley x_BadValley c_is_valley c_check_round c_lanes c_heights.cal)
 have c_Ice__check_lane:=a15.calX z (by walk_at "2") (vz nb T_Ice e_NoLane x_NoLane)
 have c_Ice__tell:=a16.calX z (by walk_at "3") (Js nb T_Ice e_BadWeather x_BadWeather c_check_told c_is_weather)
 have c_Ice__plain:=a17.calX z (by walk_at "2") (kL nb T_Ice e_NotTold x_NotTold c_check_told)
 have c_Ice__surge:=a18.calX z (by walk_at "4") (kQ nb T_Ice cl_Ice g_GREATEST_SURGE e_BadSurge x_BadSurge c_Ice__check_lane c_check_told)
 have c_Ice__calm:=a19.calX z (by walk_at "3") (Jr nb T_Ice cl_Ice e_NotTold x_NotTold c_Ice__check_lane c_check_told)
 have c_Ice__turn:=a20.calX z (by walk_at "2") (Jg nb T_Ice c_check_round)
 have c_Ice__surges:=a21.calX z (by walk_at "2") (wP nb T_Ice cl_Ice c_Ice__check_lane)
 have c_check_asked:=a22.calX z (by walk_at "1") (wL g_LAST_ASKED e_BadYear x_BadYear)
 have c_ride_by:=a23.cal z (by walk_at "2") (Z1 nb)
 have c_ridden:=a24.calX z (by walk_at "3") (ZR cl_Ice c_Ice__surges c_check_asked c_ride_by)
 have c_law_box:=a25.cal z (by walk_at "1") (W8 nb.toNb)
 have c_law_mixed:=a26.cal z (by walk_at "2") (Vc)
 have c_law_take:=a27.cal z (by walk_at "2") (Ug nb.toNb c_law_mixed)
 have c_law_whole:=a28.cal z (by walk_at "1") (Vy nb)
 have c_law_alike:=a29.cal z (by walk_at "2") (ZW)
 have c_law_alike:=a29.cal z (by walk_at "2") (gK 0 nb c_law_whole c_law_alike)
 have c_law_alike:=a29.cal z (by walk_at "2") (gK 1 nb c_law_whole c_law_alike)
 have c_law_far:=a32.cal z (by walk_at "1") (We nb c_law_take)
 have c_law_odd:=a33.cal z (by walk_at "1") (W3 c_law_take)
 have c_law_weather:=a34.cal z (by walk_at "1") (Z2 c_law_take)
 have c_law_round:=a35.cal z (by walk_at "1") (Vj nb.toNb c_law_take c_law_weather)
 have c_law_ground_drawn:=a36.cal z (by walk_at "3") (wn nb c_law_take)
 have c_law_reaches:=a37.cal z (by walk_at "1") (Xx nb c_law_take c_law_ground_drawn)
 have c_law_roads:=a38.cal z (by walk_at "1") (V8 nb)
 have c_law_ground:=a39.cal z (by walk_at "2") (Ys)
 have c_law_year:=a40.cal z (by walk_at "1") (Ul c_law_take)
 have c_law_scene:=a41.cal z (by walk_at "1") (V5 nb c_law_take c_law_reaches c_law_round c_law_ground c_law_roads c_law_year c_law_weather)
 have c_law_made:=a42.cal z (by walk_at "1") (VT nb cl_Ice c_Ice c_Ice__tell c_Ice__surge)
 have c_law_ride:=a43.cal z (by walk_at "3") (VI nb)
 have c_law_spot:=a44.cal z (by walk_at "2") (VB nb c_law_take)
 have c_law_refused:=a45.calH z (by walk_at "1") (XZ nb b_ValueError e_BadYear e_NoLane e_NoPlace e_BadHand)
 have c_law_due_spot:=a46.cal z (by walk_at "4") (Wa nb)
 have c_law_bent_spot:=a47.cal z (by walk_at "3") (VM nb c_law_take c_law_odd c_law_spot)
 have c_law_bent_row:=a48.cal z (by walk_at "2") (QJ nb c_law_take c_law_odd)
 have c_law_good_row:=a49.cal z (by walk_at "1") (Qz)
 have c_law_kinds:=a50.calH z (by walk_at "1") (Vz (Cs:=[C0,C1,C2,C3,C4,C5,C6,C7,C8,C9,C10,C11,C12,C13,C14,C15,C16]) nb e_BadValley e_BadRound e_BadWeather e_BadYear e_BadSurge e_BadRock e_BadName e_BadHand e_BadDeed e_NoLane e_NoPlace e_NoName e_NotTold e_NothingThere e_Taken e_Full e_BadPage)
 have c_law_ice_deed:=a51.cal z (by walk_at "2") (JP nb c_law_take c_law_odd c_law_year c_law_weather c_law_round c_law_bent_row)
 have c_law_ice_due:=a52.cal z (by walk_at "2") (XV nb c_law_good_row)
 have c_law_scene_copy:=a53.cal z (by walk_at "1") (Ua nb b_dict)
 have c_law_ice_step:=a54.cal z (by walk_at "2") (QG nb c_law_scene_copy)
 have c_law_ice_do:=a55.cal z (by walk_at "2") (Yw nb cl_Ice e_FirnError mm117 mm217 mm317 mm417 mm917 mm1217 kR kW kY kS kN kO c_Ice__turn c_Ice__tell c_Ice__plain c_Ice__surge c_Ice__calm c_law_kinds)
 have c_law_ice_turn:=a56.cal z (by walk_at "3") (QQ nb c_law_ice_deed c_law_ice_due c_law_ice_do c_law_alike c_law_ice_step)
 have c_law_try_ride:=a57.cal z (by walk_at "3") (Q5 e_FirnError mm917 mm317 rN rY c_ridden c_law_refused)
 exact UP nb c_law_box c_law_scene c_law_made c_law_far c_law_ride c_law_alike c_law_due_spot c_law_bent_spot c_law_try_ride c_ridden c_law_ice_turn (vQ (st:=vv) l58 c58 k58)
end K11
end
open PySem PySem.W PyProof.Rows
set_option maxRecDepth 100000 in
set_option maxHeartbeats 0 in
theorem PySem.Challenge.cw_firnfall_k11_rides_by_a_year_holds : PySem.Challenge.rw_firnfall_k11_rides_by_a_year.Holds := by
 w_on
 refine holds_law HO.ws λsaid=>?_
 refine holds_open (q:=HO.view) (loose:=HO.loose) (N:=12000) (Xt:=HO.xt) (XP:=XL HO.view [])
  (Yf:=Hook.obs (oU HO.frag.heap_1 HO.asL HO.asE [269])) (Ya:=Hook.val (oU HO.frag.heap_1 HO.asL HO.asE [269])) (YP:=Hook.says (oU HO.frag.heap_1 HO.asL HO.asE [269]))
  HO.left (Hook.of (oU HO.frag.heap_1 HO.asL HO.asE [269])) (Hook.keeps (oU HO.frag.heap_1 HO.asL HO.asE [269]))
  (λs e=>xl_of s (Bool.and_eq_true_iff.mp e).1) XL.keeps rfl rfl rfl
  (λs e=>recFacts_of (Bool.and_eq_true_iff.mp e).2) rfl
  (by first | assumption | decide +kernel) (by decide +kernel) ⟨rfl,rfl,rfl,rfl,rfl,by decide +kernel⟩ ?hw ?hc
 (case hw=>w_witness2)
 k_fill
 refine L2.U6 (l:=PySem.Challenge.rw_firnfall_k11_rides_by_a_year) 11 271 269 ⟨rfl,⋯,⋯⟩ rfl rfl (λw h Y=>⟨PySem.W.km_in_of Y,PySem.W.km_tabs_of Y 269 (by simp)⟩) (λ_=>by kernel_rfl) (λ_=>by kernel_rfl) ?F
 case F =>
  intro w mg fa h KX G hmg
  refine' K11.UR KX G hmg ..
  all_goals try first | refine' L2.gN.mk ?_ ?_ ?_ ?_ | refine' L2.gM.mk ?_ ?_ ?_ ?_ ?_ | refine' L2.gE.mk ?_ ?_ ?_ | refine' K11.RefK.mk ⟨?_,?_,?_,?_,?_,?_,?_,?_⟩ ?_ ?_ ?_ ?_ ?_ | refine' K11.KindK.mk ⟨?_,?_,?_,?_,?_,?_,?_,?_⟩ ?_ ?_ ?_ ?_ ?_ ?_ ?_ ?_ ?_ ?_ ?_ ?_ ?_ ?_ ?_ ?_ ?_
  all_goals try show _=_
  all_goals try k_is
  all_goals kernel_rfl
