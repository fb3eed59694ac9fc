import PyProof.Rows.All
import Wide.All
import OpenK.AllK
import Wide.FinOn
import Lean
import PyProof.EqAt
import PyProof.EqKinds
import PyProof.TupleCall
import PyProof.AttrMissHeap
import KE.KDictOf
import PySem.Challenge.RW_firnfall_k19_where_hands_end
set_option Elab.async false
set_option linter.all false
set_option maxRecDepth 100000
set_option maxHeartbeats 0
open And renaming intro->fB
open Array renaming length_toList->bV,getElem?_setIfInBounds_ne->fQ,getElem?_toList->fS,getD_eq_getD_getElem?->iF,getElem?_eq_getElem->iV,getD->nI,forIn_toList->nK,toList_map->oW,mk->pZ
open Bool renaming false_ne_true->ar,and_eq_true->aY,false_eq_true->cJ,eq_iff_iff->dZ,true_and->eC
open False renaming elim->bA
open ForIn renaming forIn->sQ
open ForInStep renaming yield->bS
open Int renaming toNat_natCast->bw,emod_lt_of_pos->dq,zero_add->dU,emod_nonneg->eA,le_refl->mP,le_trans->oM,le_of_lt->oN
open LawfulBEq renaming eq_of_beq->sx
open List renaming getElem?_eq_getElem->ae,length_map->ah,getD_eq_getElem?_getD->ak,length_append->aq,size_toArray->av,mem_of_getElem?->aw,getElem?_map->ax,map_append->aA,mem_cons_of_mem->aD,range->aF,mem_cons_self->aH,mem_append_right->aI,map_cons->aJ,length_take->aM,take_length->aZ,length_singleton->b9,Nodup->bc,length_range->bg,length_cons->bj,append_nil->bp,mem_map_of_mem->bG,getElem?_append_right->bK,all_eq_true->bM,map_map->bP,getElem_mem->bU,length_filter_le->bX,take_add_one->c3,getElem?_append_left->c8,range_succ->cj,filter_append->ck,lookup_cons->cp,reverse->cE,drop_eq_getElem_cons->cH,getElem?_range->cZ,take_of_length_le->d9,replicate->dh,map_congr_left->dC,getElem_map->dJ,lookup->dN,getElem?_drop->dR,find?_cons_of_pos->dX,find?_cons_of_neg->dY,find?_cons->ef,mem_cons->eE,length_replicate->eF,append_assoc->eJ,reverse_reverse->eN,length_drop->eQ,map_nil->eR,not_mem_nil->eS,any_cons->eX,pairwise_cons->fi,pairwise_singleton->fm,filter->fq,filter_cons_of_neg->ft,filter_cons_of_pos->fA,all_map->fL,length_pos_of_mem->fM,nodup_nil->fN,getElem?_set->fP,mem_append_left->i9,of_mem_zip->ik,length_set->il,forIn_cons->ip,filterMap_cons->iA,length_reverse->iD,find?_eq_none->iS,mem_of_find?_eq_some->iW,getLastD_eq_getLast?->iX,getLast?_eq_getElem?->iY,reverse_cons->lg,ext_getElem?->lh,flatten_cons->lp,getElem?_replicate->lJ,ext_getElem->lK,getElem?_set_self->lP,drop_of_length_le->lY,drop_eq_nil_of_le->m8,range_zero->mi,getElem?_set_ne->mx,length->mB,map_id->mI,replicate_succ'->mQ,all_cons->n5,sum_cons->n6,filterMap_map->nv,getElem?_take->nO,toArray->oA,getElem_take->oH,map_snd_zip->oX,nodup_range->oY,zipIdx_cons->oZ,map_reverse->pw,zipIdx_nil->pO,length_nil->pQ,filter_nil->pS,map->rQ,forIn_nil->rS,take_zero->rW,drop_zero->rX
open List.Pairwise renaming nil->fI,map->oI
open List.Perm renaming refl->mG,cons_inv->nM
open List.cons renaming inj->fc
open Nat renaming le_refl->ao,ne_of_lt->aB,zero_le->aE,le_trans->aG,lt_of_lt_of_le->aN,lt_of_le_of_lt->bO,lt_succ_of_lt->cf,lt_irrefl->cu,succ_le_succ->cK,ne_of_gt->d0,le_add_right->dI,le_of_lt->eO,le_succ->fk,lt_succ_self->fV,zero_add->m6,le_of_eq->nW,sub_self->oC,sub_zero->oO,min_eq_right->px,not_lt_zero->pM,min_eq_left->pT,add_assoc->su
open Ne renaming symm->cq
open Option renaming toList_some->dW,map_some->iz,isSome_map->oG,getD_none->oU
open Option.some renaming inj->aO
open Or renaming inl->aP,inr->fW
open Prod renaming ext->sO,snd->sR
open PyProof.Rows renaming seqObj->bo,boot_list->bQ,callWith_type1->bZ,boot_isinstance->c7,slot_tuple_getitem->cG,listUpdate_at->cM,boot_tuple->cS,IntsAre->d6,get?_update_seq->ee,seqEpoch_at->eM,boot_bool->fO,AllBare->i5,subscriptTail->i6,envOfC->lr,Subscript_->lV,subscriptTail_builtinR->lW,listItems_at->lZ,entry_list_sort->me,boot_int->mq,boot_str->mr,slot_list_sort->mF,entry_tuple_getitem->mX,args_tuple_getitem->nA,size_push'->nJ,plain_sorted->ow,entry_sorted->oz,boot_all->oJ,boot_max->oK,kind_sorted->pI,boot_sorted->pJ,list_sort_plain->pL,boot_range->rn,slicePart_none->rC,SortKind->rK,args_list_sort->rN,failedOf->rP,tupleItemsOf_->sf,tail_any->sP,boot_sum->sY,boot_min->sZ,Call_->t7
open PyProof.Rows.IsTup renaming new->sy
open PyProof.Rows.KeyOrd renaming kle_refl->cW,kle_of_klt->fJ,kle_trans->fX,kle_antisymm->iC
open PySem renaming wpAny_bind->aa,Value->af,wpAny->au,model->aC,starEach->aK,World->aU,boot_len->aV,wpAny_mono->b7,Around->bb,sizeLine_eq->bt,wpAny_newObj_type->bx,wpAny_field->bC,rawInt->bJ,wpAny_callSpecial?_slot->bL,wpAny_holding->bN,wpAny_loadPart'->bT,wpAny_truthy_bool->bY,compareOp->c5,foldedSetIterable->cx,bindArgs->cA,backTo->cF,wpAny_call_entry->cI,Paired->cO,wpAny_seqItems->cQ,wpAny_typeNameOfWhole_keyiter->cR,letOwnedTupleGo->cU,mem_of_lookup->cY,codeAny->d5,PyData->d8,wpAny_standAt->de,sysModules->df,wpAny_Call_Name_kw->dg,wpAny_setField_rec->dm,importedModules->dv,wpAny_passesOwn->dw,codeAny_mono->dz,attributeBase->dA,IsPair->dB,wpAny_setField->dH,Builtin->dO,behindInMarks->eB,wpAny_pyIter_list->eI,keywordEach->eK,pyNext->eU,wpAny_comprehension_free->eZ,wpAny_newList->fb,holding->fe,assignEach->ff,call_meets->fg,tupleKind_room_in1->fh,sliceBounds->fj,bootBuiltins->fC,standAt->fD,NameKind->fF,wpAny_newTuple->fK,wpAny_rule->fY,DictEntry->fZ,wpAny_attempt->i8,binaryOp->ia,wpAny_updateSeq_pair->ic,wpAny_execs_nil->ig,assign->ij,codeAny_builtin->iq,getItem->iE,tupleKind->iH,swapsWith->iI,noteFrame->iJ,backToKw->iM,wpAny_newFunctionEnv_cells->iO,IsZip->iR,wpAny_dictEntries->lj,pyIter->lq,evalPart_none->lu,wpAny_getItem_list_slice->lx,plainId_quiet->ly,wpAny_onRaise->lA,wpAny_eqBool_int->lC,wpAny_execs_cons->lE,getMethod->lI,builtinsNs->lO,wpAny_pyNext_list_item->lQ,wpAny_call->lR,Keyword->lS,IsPart->lT,wpAny_typeOf->lU,codeAny_compStart_list->lX,theTreesLotGoes->md,wpAny_dictEpoch->mh,wpAny_isTrue_Compare1->mj,wpAny_pyNext_list_end->ml,wpAny_notOrdered_dict->mm,wpAny_isOneOf_keyiter->mn,wpAny_loadName_local->my,subscripted->mC,wpAny_newFunctionEnv->mD,wpAny_letGo->mH,firstArgMember->mK,ZipApart->mL,wpAny_pyIter_keyiter->mO,leaving->mS,callerA->mT,valueAt->mU,wpAny_loadName_cell->mW,evalPart_some->mZ,wpAny_pyIter_tuple->nj,wpAny_pyIter_range->nk,Result->nu,PlainAttrs->nB,closureFor->nE,getattributeRaised->nN,Within->nQ,wpAny_assign_Name->nR,callWith->nX,wpAny_sequenceKey->oj,seqIndex_neg->om,codeAny_loop->oo,compTurn->oq,wpAny_pyIter_enum->oB,cellsFrom->oS,typeOf->oV,wpAny_isInstance->pf,wpAny_pyIter_zip->ph,wpAny_Dict_empty->pj,IsRangeIter->pA,wpAny_Slice->pE,seqIndex_of->pG,wpAny_noted->pH,atKey->pK,OsState->pU,BindsTo->pV,newList->pW,Params->pY,wpAny_Name->rj,CmpOp->rm,bindL->rp,bindC->rA,typeLookup->rE,compEnvC->rG,newFunctionEnv->rJ,checkCount->rM,field->rR,wpAny_fieldsOf->rV,rangeSize_one->rZ,intBits_le_64->se,call_list_seq->si,eval_ListComp->sj,storeName->sv,cellOf->sG,stored->sH,GenState->sL,Operator->sN,compPost->sS,setField->sX,Model->t6
open PySem.Around renaming under_plainId->eL,under->oa
open PySem.Builtin.Dict renaming updateFrom->lM
open PySem.Builtin.Dict_items renaming addrOf->du
open PySem.Builtin.List renaming listTooLong->eY
open PySem.Builtin.Range renaming rangeSize->lH
open PySem.Builtin.Slice renaming slicePlaces->bH,sliceAdjust->c9,sliceApplied->di,sliceFields->iT
open PySem.Builtin.SmallTypes renaming nextOf->bu,ownedTupleIsFree->cg,ownedTupleHandOut->eW
open PySem.Builtin.Tuple renaming tupleExact->bI,tupleItemsOf->iP
open PySem.Calls renaming callWith_builtin->fH,evalArgs_plain->ib,Name_function_global->iK,spliced_cons->iN,call_function_entry->iU,spliced_nil->oh
open PySem.Code renaming isFrame->og
open PySem.Data renaming cell->lF,fields->mz
open PySem.EntryCells renaming newEntry->mY
open PySem.Env renaming kindOf->rH
open PySem.F renaming excBase_ValueError->br,plainAttrs_list->bz,slot_list_append->bD,type_list_append->bE,slot_dict_keyiterator_next->cX,slot_tuple_iterator_next->dj,slot_dict_get->fT,args_dict_keyiterator_next_1->i4,entry_dict_keyiterator_next->ie,args_tuple_iterator_next_1->ir,slot_zip_next->iu,entry_tuple_iterator_next->iG,args_dict_get_3->lL,entry_dict_get->m7,slot_list_lt->mE,args_zip_next_1->oF,entry_zip_next->pe,slot_dict_iter->pq
open PySem.Fin renaming done->rO
open PySem.Heap renaming get?_push_of_some->ai,lt_size->ay,get?_push_size->az,get?_update_ne->bW,SameBut->cw,size_push->cz,get?_update_other->cC,get?_push_ne->cD,get?_update_self->dr,size_update->dG,ExtBut->mJ,MadeExcOf->mM
open PySem.Heap.DictOf renaming new->pR
open PySem.Heap.IsSliceOf renaming new->iQ
open PySem.Heap.SameBut renaming update->eV
open PySem.IsRange renaming new->pC
open PySem.NameKind renaming free->b8,cell->i7
open PySem.Obj renaming mapSeq->aT,mapFields->cv,data_mapFields->dS,isFreed_of_fields->eG,cls_mapFields->oE
open PySem.Paired renaming length->aX,snoc->cP
open PySem.PassesOwn renaming never->aW
open PySem.PyData renaming eqv->nH
open PySem.SeqAt renaming shaped->ou
open PySem.SeqAt.EqAt renaming int_str->nh,str_int->ni
open PySem.Str renaming ofString->aj
open PySem.Value renaming ref->aQ,none->aS,type->fU,isInt_shape->iZ,int->lB,bool->lN,str->mR,isStrOf_shape->mV,float->pz,isStrOf->rY
open PySem.W renaming Frag->ag,nsIn->aR,mg_none_of->bf,mg_of->bh,kitOne->bq,fnOf->bB,findIn->bF,keepIn->bR,kia_one->c6,emptyDict->cc,codeIn->cB,excIn->cN,instObj->cT,boot_heap->dE,callWith_K->dQ,plainGet->eP,hasDictIn->fE,cellsFrom_some->fG,methodCall_KW->fR,plainGet_of->iB,lookIn->iL,methodObj->l3,plainOver->l9,takerIn->m9,makesIn->ma,namesBound->n9,isFn->nU,kitx_list->nZ,kitx_dict->o9,staticsOk->oP,kmHook->oQ,handedIn->oR,OpenLaw->pN,kas_rev->pX,boot_drawn->r9,tabObj->rf,gensDone->rg,laidKept->rh,funFrames_hide->rT,kas_tail3->sD,topStub->sF,openSeen->sI,openGood->sJ,openEnds->sM,kas_sort->sU,kas_item->sV,kat_snds->sW
open PySem.W.Looks renaming of_pure->sr
open PySem.W.OpenLaw renaming row->mw
open StateT renaming run_pure->mf
open Sum renaming inr->ba,inl->dP
open Sum.inl renaming inj->dM
open True renaming intro->cV
open PySem PySem.Spec PyProof.Rows
local macro_rules | `(∅)=>`(by omega)
local macro_rules | `(⋯)=>`(by decide)
section
namespace HO
open PySem PySem.W PyProof.Rows PySem.Calls PySem.Spec
def view:Program:={ PySem.Challenge.pw_firnfall_k19_where_hands_end with main:={ PySem.Challenge.pw_firnfall_k19_where_hands_end.main with body:=(PySem.Challenge.pw_firnfall_k19_where_hands_end.main.body).drop 72 } }
def loose:List Str:=[aj "_wall",aj "FirnError",aj "BadValley",aj "BadRound",aj "BadWeather",aj "BadYear",aj "BadSurge",aj "BadHand",aj "NoLane",aj "NoPlace",aj "MOST_REACHES",aj "MOST_HEIGHTS",aj "GREATEST_HEIGHT",aj "MOST_LANES",aj "LONGEST_LANE",aj "is_valley",aj "is_reach",aj "leads_on",aj "fits",aj "lanes",aj "way_down",aj "way_of",aj "count_places",aj "heights",aj "HIGHEST_LINE",aj "MOST_HANDS",aj "MOST_ROWS",aj "is_weather",aj "is_round",aj "change",aj "LAST_TOLD",aj "LAST_ASKED",aj "GREATEST_SURGE",aj "check_told",aj "check_asked",aj "check_round",aj "Ice",aj "ride_by",aj "earliest",aj "ridden",aj "span",aj "life",aj "parted",aj "end_of",aj "_law_box",aj "_law_mixed",aj "_law_take",aj "_law_whole",aj "_law_alike",aj "_law_weather",aj "_law_round",aj "_law_ground_drawn",aj "_law_reaches",aj "_law_roads",aj "_law_ground",aj "_law_year",aj "_law_scene",aj "_law_made",aj "_law_row",aj "_law_wish",aj "_law_ride",aj "_law_marks",aj "_law_year_of",aj "_law_walk"]
section
local macro_rules | `(tactic| o_head $H)=>`(tactic| (have hook:=$H;assumption))
theorem frag (hyp:(mw PySem.Challenge.rw_firnfall_k19_where_hands_end).Holds):(mw PySem.Challenge.rw_firnfall_k19_where_hands_end).Holds:=by
 k_head
end
def asL:List Addr:=[2,3,15,17,18,20,21,22,29,30,31,32,35,42,43,44,47,54,55,56,59,66,67,68,71,78,79,80,83,90,91,92,95,102,103,104,107,114,115,116,119,126,127,128,131,134,135,136,139,140,141,143,144,146,147,148,151,152,153,156,157,158,160,161,163,164,165,167,168,170,171,172,175,176,177,180,181,182,184,185,187,188,189,192,193,194,196,197,199,200,201,203,204,206,207,208,210,211,213,214,215,217,218,220,221,229,232,233,234,236,237,239,240,241,243,244,246,247,248,250,251,253,254,255,257,258,260,261,262,264,265,267,268,269,271,272,274,275,276,278,279,281,282,283,285,286,288,289,290,292,293,295,296,297,299,300,302,303,304,306,307,309,310,311,313,314,316,317,318,321,322,323,326,327,328,330,331,333,334,335,337,338,340,341,342,344,345,347,348,349,350,351,352,353,356,359,360,361,363,364,366,367,368,370,371,373,374,375,377,378,380,381,382,384,385,387,388,389,391,392,394,395,396,398,399,401,402,403,405,406,408,409,410,412,413,415,416,417,419,420,422,423,424,426,427,429,430,431,434,435,436,438,439,441,442,443,446,447,448,451,452,453,456,457,458,461,462,463,465,466,468,469,470,472,473,475,476,477,480,481,482,484,485,487,488,489,491,492,494,495,496,498,499,501,502,503,506,507,508,511,512,513,515,516,518,519,520,522,523,525,526,527,530,531]
theorem asE (P:pY):asL=(frag.heap_1 P).map (·.1):=by kernel_rfl
noncomputable def top (w:aU) (os:pU):Option Shared:=PySem.W.Fast.tw14082659384304107361 PySem.W.Fast.tw14364793385576792824 PySem.Challenge.pw_firnfall_k19_where_hands_end w (dE w.params).objs.size ((dE w.params).nsMap mainGlobals "__annotations__") 9000 ⟨dE w.params,pZ [],r9,boot_toks,os⟩ (sF PySem.Challenge.pw_firnfall_k19_where_hands_end)
def xt (s:Shared):Bool:=xlAt view [] s && recOk (RowW.records (OpenRow.toRowW (mw PySem.Challenge.rw_firnfall_k19_where_hands_end))) s
theorem ran2 (w:aU) (os:pU):(top w os).map (λs=>(asL.map s.heap.get?,[154].map s.heap.get?))=some ((frag.heap_1 w.params).map λp=>some p.2,[154].map λ_=>some (rf #[])):=by kernel_rfl
theorem ws:OpenLaw.wellSaid PySem.Challenge.rw_firnfall_k19_where_hands_end=true:=by kernel_rfl
theorem ran1 (w:aU) (os:pU):(top w os).map (λs=>sI view loose (dv PySem.Challenge.pw_firnfall_k19_where_hands_end.main.body) xt true s)=some (sJ view loose):=by kernel_rfl
theorem ran0 (w:aU) (os:pU):(top w os).map (λs=>oP (dv PySem.Challenge.pw_firnfall_k19_where_hands_end.main.body) (dE w.params) s.heap && n9 PySem.Challenge.pw_firnfall_k19_where_hands_end s.heap && rg s && rh (dE w.params) s.heap)=some true:=by kernel_rfl
theorem W1 (w:aU) (os:pU):topRun treeTable PySem.Challenge.pw_firnfall_k19_where_hands_end w (dE w.params).objs.size ((dE w.params).nsMap mainGlobals "__annotations__") 9000 ⟨dE w.params,pZ [],r9,boot_toks,os⟩ (sF PySem.Challenge.pw_firnfall_k19_where_hands_end)=top w os:=by
 rw [PySem.W.Fast.te14082659384304107361,PySem.W.Fast.te14364793385576792824]
 rfl
theorem W6 (w:aU):((dE w.params).isNs mainGlobals && (pZ []:Array sL).size == 0)=true:=by kernel_rfl
theorem Jo {tb:String->Option dO}{p:Program}{w:aU}{N:Nat}{s:Shared}{h:Heap}{gs d k os}(hb:(h.isNs mainGlobals && gs.size == 0)=true) (hr:topRun tb p w h.objs.size (h.nsMap mainGlobals "__annotations__") N ⟨h,gs,d,k,os⟩ (sF p)=some s) (hl:(oP (dv p.main.body) h s.heap && n9 p s.heap && rg s && rh h s.heap)=true):topFrom tb p w N ⟨h,gs,d,k,os⟩=some s:=by
 unfold topFrom
 rw [hb]
 show ((topRun tb p w h.objs.size (h.nsMap mainGlobals "__annotations__") N ⟨h,gs,d,k,os⟩ (sF p)).bind _)=_
 rw [hr]
 show (match oP (dv p.main.body) h s.heap && n9 p s.heap && rg s && rh h s.heap with | true=>some s | false=>none)=_
 rw [hl]
theorem Zx {tb:String->Option dO}{p:Program}{w:aU}{N:Nat}{s₀ s:Shared}(a:fencedOpening tb p w N=some s₀) (t:topFrom tb p w N s₀=some s):sM tb p w N=some s:=by
 unfold sM
 rw [a]
 exact t
theorem left:LeftO (mw PySem.Challenge.rw_firnfall_k19_where_hands_end).prog view loose xt (Hook.obs (oQ frag.heap_1 asL asE [154])) (Hook.val (oQ frag.heap_1 asL asE [154])) 9000:=λw=>by
 obtain ⟨⟨h,gs,d,k,os⟩,a,b⟩:=Option.map_eq_some_iff.mp (boot_open (p:=PySem.Challenge.pw_firnfall_k19_where_hands_end) (N:=9000) (by kernel_rfl) ⋯ (λs=>by kernel_rfl) w)
 obtain ⟨rfl,rfl,rfl,rfl⟩:h=dE w.params/\gs=pZ []/\d=r9/\k=boot_toks:=by simpa using b
 have h0:=ran0 w os
 have h1:=ran1 w os
 have h2:=ran2 w os
 cases e:top w os with
 | none=>rw [e] at h1;cases h1
 | some s =>
  rw [e] at h0 h1 h2
  have l1:(oP (dv PySem.Challenge.pw_firnfall_k19_where_hands_end.main.body) (dE w.params) s.heap && n9 PySem.Challenge.pw_firnfall_k19_where_hands_end s.heap && rg s && rh (dE w.params) s.heap)=true:=aO h0
  have l2:sI view loose (dv PySem.Challenge.pw_firnfall_k19_where_hands_end.main.body) xt true s=sJ view loose:=aO h1
  obtain ⟨m1,m2⟩:=Prod.mk.inj (aO h2)
  have m5:asL.map s.heap.get? = (frag.heap_1 w.params).map λp=>some p.2:=m1
  have t:=Zx a (Jo (W6 w) ((W1 w os).trans e) l1)
  show (sM treeTable PySem.Challenge.pw_firnfall_k19_where_hands_end w 9000).map _=_
  rw [t]
  show some (sI view loose (dv PySem.Challenge.pw_firnfall_k19_where_hands_end.main.body) xt true s,(asL.map s.heap.get?,[154].map s.heap.get?))=some (sJ view loose,_)
  rw [l2,m5,m2]
  rfl
end HO
end
noncomputable section
namespace L2
noncomputable abbrev Key:=Sum Int Str
noncomputable def kY:Key->af->Bool
 | .inl k,v=>Value.isInt k v
 | .inr x,v=>rY x v
noncomputable def keyH (w:aU):Key->Int
 | .inl k=>hashInt k
 | .inr x=>hashStr w x
theorem qr:∀{k:Key}{v:af},kY k v=true->(∃i t,k=dP i/\v=lB i t)\/(∃x t,k=ba x/\v=mR x t)
 | .inl i,v,h=>by
  obtain ⟨t,e⟩:=iZ (k:=i) (v:=v) h
  exact .inl ⟨i,t,rfl,e⟩
 | .inr x,v,h=>by
  obtain ⟨t,e⟩:=mV (x:=x) (v:=v) h
  exact .inr ⟨x,t,rfl,e⟩
theorem Zm (i:Int) (t:Tok):kY (.inl i) (.int i t)=true:=by simp [kY,Value.isInt]
theorem ZY (x:Str) (t:Tok):kY (.inr x) (.str x t)=true:=by simp [kY,rY]
theorem Ws (a b:Int):decide ((dP a:Key)=dP b)=(a == b):=by
 by_cases e:a=b
 ·subst e;simp
 ·have h:¬(dP a:Key)=dP b:=λq=>e (dM q)
  rw [decide_eq_false h]
  exact (beq_eq_false_iff_ne.mpr e).symm
theorem UZ (a b:Str):decide ((ba a:Key)=ba b)=decide (a=b):=by
 by_cases e:a=b
 ·subst e;simp
 ·have h:¬(ba a:Key)=ba b:=λq=>e (Sum.inr.inj q)
  rw [decide_eq_false h,decide_eq_false e]
theorem Wb (a:Int) (b:Str):decide ((dP a:Key)=ba b)=false:=decide_eq_false (λq=>nomatch q)
theorem Wn (a:Str) (b:Int):decide ((ba a:Key)=dP b)=false:=decide_eq_false (λq=>nomatch q)
noncomputable def jC (prog:Program) (w:aU):PySem.KeyKind prog w Key where
 is:=kY
 hash:=keyH w
 inj:=λv a b ha hb=>by
  rcases qr ha with ⟨i,t,rfl,rfl⟩ | ⟨x,t,rfl,rfl⟩
  ·rcases qr hb with ⟨j,u,rfl,e⟩ | ⟨y,u,rfl,e⟩
   ·injection e with e1 _;rw [e1]
   ·exact nomatch e
  ·rcases qr hb with ⟨j,u,rfl,e⟩ | ⟨y,u,rfl,e⟩
   ·exact nomatch e
   ·injection e with e1 _;rw [e1]
 byValue:=λk v h=>by
  rcases qr h with ⟨i,t,rfl,rfl⟩ | ⟨x,t,rfl,rfl⟩ <;> rfl
 pyHash:=λhv h=>by
  rcases qr hv with ⟨i,t,rfl,rfl⟩ | ⟨x,t,rfl,rfl⟩
  ·exact wpAny_pyHash_int h
  ·exact wpAny_pyHash_str h
 eqBool:=λhu hv h=>by
  rcases qr hu with ⟨i,t,rfl,rfl⟩ | ⟨x,t,rfl,rfl⟩
  ·rcases qr hv with ⟨j,u,rfl,rfl⟩ | ⟨y,u,rfl,rfl⟩
   ·rw [Ws] at h;exact lC h
   ·rw [Wb] at h;exact nh i t y u _ _ _ _ h
  ·rcases qr hv with ⟨j,u,rfl,rfl⟩ | ⟨y,u,rfl,rfl⟩
   ·rw [Wn] at h;exact ni x t j u _ _ _ _ h
   ·rw [UZ] at h;exact wpAny_eqBool_str h
 «strs»:=λk x t v h=>by
  rcases qr h with ⟨i,u,rfl,e⟩ | ⟨y,u,rfl,e⟩
  ·exact nomatch e
  ·injection e with e1 _
   subst e1
   cases v <;> rfl
theorem Qr (prog:Program) (w:aU) (i:Int) (t:Tok):(jC prog w).is (.inl i) (.int i t)=true:=Zm i t
theorem Qt (prog:Program) (w:aU) (x:Str) (t:Tok):(jC prog w).is (.inr x) (.str x t)=true:=ZY x t
end L2
namespace L2
inductive V where
 | non | bl (b:Bool) | int (i:Int) | str (x:Str) | byt (b:Array UInt8) | flt (b:UInt64) | ref (a:Addr) | ty (n:String)
 deriving DecidableEq
noncomputable def jA:V->af->Prop
 | .non,u=>u=aS
 | .bl b,u=>u=lN b
 | .int i,u=>∃t,u=lB i t
 | .str x,u=>∃t,u=mR x t
 | .byt b,u=>∃t,u=Value.bytes b t
 | .flt b,u=>∃t,u=pz b t
 | .ref a,u=>u=aQ a
 | .ty n,u=>u=fU n
noncomputable abbrev jz:List V->List af->Prop:=cO jA
theorem jz.length {xs:List V}{us:List af}(r:jz xs us):xs.length=us.length:=aX r
theorem jz.get:∀{xs:List V}{us:List af}{i:Nat}{x:V},jz xs us->xs[i]? = some x->∃u,us[i]? = some u/\jA x u
 | _,_,_,_,.nil,e=>by simp at e
 | _,_,0,_,.cons r _,e=>by simp at e;subst e;exact ⟨_,rfl,r⟩
 | _,_,i+1,x,.cons _ t,e=>by
  obtain ⟨u,h1,h2⟩:=jz.get (i:=i) (x:=x) t (by simpa using e)
  exact ⟨u,by simpa using h1,h2⟩
theorem jz.set {x:V}{u:af}(r:jA x u):∀{xs:List V}{us:List af}(i:Nat),jz xs us->jz (xs.set i x) (us.set i u)
 | _,_,_,.nil=>.nil
 | _,_,0,.cons _ t=>.cons r t
 | _,_,i+1,.cons q t=>.cons q (jz.set r i t)
theorem jz.append:∀{xs ys:List V}{us ws:List af},jz xs us->jz ys ws->jz (xs++ys) (us++ws)
 | _,_,_,_,.nil,s=>s
 | _,_,_,_,.cons r t,s=>.cons r (jz.append t s)
theorem jz.take:∀{xs:List V}{us:List af}(n:Nat),jz xs us->jz (xs.take n) (us.take n)
 | _,_,0,_=>.nil
 | _,_,_+1,.nil=>.nil
 | _,_,n+1,.cons r t=>.cons r (jz.take n t)
theorem jz.drop:∀{xs:List V}{us:List af}(n:Nat),jz xs us->jz (xs.drop n) (us.drop n)
 | _,_,0,r=>r
 | _,_,_+1,.nil=>.nil
 | _,_,n+1,.cons _ t=>jz.drop n t
noncomputable def yn:Option V->Option af->Prop
 | some v,some u=>jA v u
 | none,none=>True
 | _,_=>False
noncomputable def KV {κ:Type}:List (κ×V)->List (κ×af)->Prop:=cO λ(p:κ×V) (q:κ×af)=>p.1=q.1/\jA p.2 q.2
noncomputable def kV:Key->V
 | .inl i=>.int i
 | .inr x=>.str x
inductive HO where
  | lst (xs:List V)
  | tup (xs:List V)
  | dK (kvs:List (Key×V)) | dT (kvs:List (List Key×V))
  | set (S:Int->Bool) (n:Nat)
  | ins (C dx:Addr) (fs:List (Str×V))
  | own (x:Addr)
  | xd (fs:List (Str×V))
  | met (f x:Addr)
  | rng (lo hi:Int)
  | frz (o:Obj) (u:HO)
  | tbl (ps:Array af)
  | ext (φ:Heap->Prop)
noncomputable abbrev Hp:=Addr->Option HO
noncomputable def upd (H:Hp) (a:Addr) (o:HO):Hp:=λb=>if b=a then some o else H b
theorem j5 {H:Hp}{a:Addr}{o:HO}:upd H a o a=some o:=by unfold upd;rw [if_pos rfl]
theorem j6 {H:Hp}{a b:Addr}{o:HO}(h:b≠a):upd H a o b=H b:=by unfold upd;rw [if_neg h]
theorem ji {H:Hp}{a b:Addr}{o u:HO}(h:H a=some o) (h':H b=some u) (d:o≠u):a≠b:=by
 intro e;subst e;rw [h] at h';exact d (aO h')
theorem j1 {H:Hp}{a b:Addr}{o:HO}(h:H a=some o) (h':H b=none):a≠b:=by
 intro e;subst e;rw [h] at h';cases h'
section
variable (P:Program) (w:aU)
noncomputable def jW (H:Hp) (h:Heap) (a:Addr):HO->Prop
 | .lst xs=>xs.length<=sizeLine/\∃(its:List af) (n:Nat),jz xs its/\h.get? a=some { cls:=.type "list",data:=.seq its.toArray n }
 | .tup xs=>xs.length<=sizeLine/\∃its:List af,jz xs its/\IsTup h a its.toArray
 | .dK kvs=>kvs.length<=sizeLine/\(a == df)=false/\∃vs,KV kvs vs/\h.DictOf (jC P w) a vs
 | .dT kvs=>kvs.length<=sizeLine/\(a == df)=false/\∃xs:List (List Key×Addr×af),
   cO (λ(p:List Key×V) (q:List Key×Addr×af)=>p.1=q.1/\H q.2.1=some (.tup (p.1.map kV))/\jA p.2 q.2.2) kvs xs /\
   ∃o es ep,h.get? a=some o/\o.ExactDict/\o.data = .dict es ep/\es.toList=xs.map (entryOfKey (iH (jC P w)))/\(xs.map (·.1)).Nodup
 | .set S n=>h.SetOf (intKind P w) a S n
 | .ins C dx fs=>H dx=some (.own a)/\fs.length<=1000/\dx≠a/\h.get? a=some (cT C dx) /\
   ∃mA,h.Ns1 dx mA/\(∀f,yn (fs.lookup f) (mA f))/\nQ mA (fs.map (·.1))
 | .own _=>∃o,h.get? a=some o
 | .xd fs=>∃mA,h.Ns1 a mA/\∀f,yn (fs.lookup f) (mA f)
 | .rng lo hi=>∃t u v,h.get? a=some { cls:=.type "range",data:=.fields #[.int lo t,.int hi u,.int 1 v] }
 | .frz o u=>h.get? a=some o/\jW H h a u
 | .tbl ps=>h.get? a=some { cls:=.none,data:=.fields ps }
 | .met f x=>h.get? a=some (l3 (.ref f) (.ref x))
 | .ext φ=>φ h/\(∃o,h.get? a=some o)/\∀h1 h2:Heap,φ h1->(∀o,h1.get? a=some o->h2.get? a=some o)->φ h2
noncomputable def HOk (H:Hp) (h:Heap):Prop:=∀a o,H a=some o->jW P w H h a o
end
section
variable {P:Program}{w:aU}{H H':Hp}{h h':Heap}{a:Addr}{o:HO}
theorem jW.lt (x:jW P w H h a o):a<h.objs.size:=by
 cases o with
 | lst xs=>obtain ⟨_,_,_,_,e⟩:=x;exact ay e
 | tup xs=>obtain ⟨_,_,_,p⟩:=x;exact p.lt
 | dK kvs=>obtain ⟨_,_,_,_,o,_,_,e,_⟩:=x;exact ay e
 | dT kvs=>obtain ⟨_,_,_,_,o,_,_,e,_⟩:=x;exact ay e
 | set S n=>obtain ⟨o,_,_,_,e,_⟩:=x;exact ay e
 | ins C dx fs=>obtain ⟨_,_,_,e,_⟩:=x;exact ay e
 | own y=>obtain ⟨_,e⟩:=x;exact ay e
 | xd fs=>obtain ⟨_,⟨_,_,_,e,_⟩,_⟩:=x;exact ay e
 | rng lo hi=>obtain ⟨_,_,_,e⟩:=x;exact ay e
 | frz ob u=>obtain ⟨e,_⟩:=x;exact ay e
 | tbl ps=>exact ay (show h.get? a=some _ from x)
 | met f y=>exact ay (show h.get? a=some _ from x)
 | ext φ=>obtain ⟨_,⟨_,e⟩,_⟩:=x;exact ay e
theorem Paired.mapP {α β:Type}{F G:α->β->Prop}:∀{l₁:List α}{l₂:List β},cO F l₁ l₂->(∀a b,F a b->G a b)->cO G l₁ l₂
 | _,_,.nil,_=>.nil
 | _,_,.cons r t,f=>.cons (f _ _ r) (Paired.mapP t f)
theorem jW.stay (x:jW P w H h a o) (k:∀b u,(b=a\/H b=some (.own a))->h.get? b=some u->h'.get? b=some u)
  (ho:∀b,H b=some (.own a)->H' b=some (.own a)) (ht:∀b xs,H b=some (.tup xs)->H' b=some (.tup xs)):jW P w H' h' a o:=by
 induction o with
 | lst xs=>obtain ⟨z,its,n,r,e⟩:=x;exact ⟨z,its,n,r,k _ _ (.inl rfl) e⟩
 | tup xs=>obtain ⟨z,its,r,ob,e,c⟩:=x;exact ⟨z,its,r,ob,k _ _ (.inl rfl) e,c⟩
 | dK kvs=>obtain ⟨z,y,vs,r,ob,es,ep,e,c⟩:=x;exact ⟨z,y,vs,r,ob,es,ep,k _ _ (.inl rfl) e,c⟩
 | dT kvs =>
  obtain ⟨z,y,xs,r,ob,es,ep,e,c⟩:=x
  exact ⟨z,y,xs,Paired.mapP r λp q z=>⟨z.1,ht _ _ z.2.1,z.2.2⟩,ob,es,ep,k _ _ (.inl rfl) e,c⟩
 | set S n=>obtain ⟨ob,es,ep,t,e,c⟩:=x;exact ⟨ob,es,ep,t,k _ _ (.inl rfl) e,c⟩
 | ins C dx fs =>
  obtain ⟨d,z,ne,e,mA,⟨od,es,ep,e2,c⟩,r⟩:=x
  exact ⟨ho _ d,z,ne,k _ _ (.inl rfl) e,mA,⟨od,es,ep,k _ _ (.inr d) e2,c⟩,r⟩
 | own y=>obtain ⟨ob,e⟩:=x;exact ⟨ob,k _ _ (.inl rfl) e⟩
 | xd fs=>obtain ⟨mA,⟨od,es,ep,e,c⟩,r⟩:=x;exact ⟨mA,⟨od,es,ep,k _ _ (.inl rfl) e,c⟩,r⟩
 | rng lo hi=>obtain ⟨t,u,v,e⟩:=x;exact ⟨t,u,v,k _ _ (.inl rfl) e⟩
 | frz ob u ih=>obtain ⟨e,q⟩:=x;exact ⟨k _ _ (.inl rfl) e,ih q⟩
 | tbl ps =>
  have e:h.get? a=some { cls:=.none,data:=.fields ps }:=x
  show h'.get? a=some { cls:=.none,data:=.fields ps }
  exact k a _ (.inl rfl) e
 | met f y =>
  have e:h.get? a=some (l3 (.ref f) (.ref y)):=x
  show h'.get? a=some (l3 (.ref f) (.ref y))
  exact k a _ (.inl rfl) e
 | ext φ=>obtain ⟨p,⟨o,e⟩,st⟩:=x;exact ⟨st _ _ p λo q=>k _ _ (.inl rfl) q,⟨o,k _ _ (.inl rfl) e⟩,st⟩
theorem HOk.lt (x:HOk P w H h) (e:H a=some o):a<h.objs.size:=(x a o e).lt
theorem HOk.fresh (x:HOk P w H h) (e:h.objs.size<=a):H a=none:=by
 cases q:H a with
 | none=>rfl
 | some u=>exact absurd (aN (x.lt q) e) (cu _)
theorem HOk.kept (x:HOk P w H h) (k:∀b u,h.get? b=some u->h'.get? b=some u):HOk P w H h':=λa o e =>
 (x a o e).stay (λb u _ q=>k b u q) (λ_ q=>q) λ_ _ q=>q
theorem HOk.laid (x:HOk P w H h) (k:∀b u,h.get? b=some u->h'.get? b=some u) (hp:h.objs.size<=a) (new:jW P w (upd H a o) h' a o):HOk P w (upd H a o) h':=λb u e=>by
 have hn:=x.fresh hp
 by_cases hb:b=a
 ·subst hb;rw [j5] at e;cases e;exact new
 ·rw [j6 hb] at e
  exact (x b u e).stay (λc v _ q=>k c v q) (λc q=>by rw [j6 (j1 q hn)];exact q) λc xs q=>by rw [j6 (j1 q hn)];exact q
end
noncomputable def Rd (H:Hp) (a:Addr) (u:HO):Prop:=H a=some u\/∃o,H a=some (.frz o u)
theorem Rd.ok {P:Program}{w:aU}{H:Hp}{h:Heap}{a:Addr}{u:HO}(r:Rd H a u) (x:HOk P w H h):jW P w H h a u:=by
 rcases r with r | ⟨o,r⟩
 ·exact x a u r
 ·obtain ⟨_,q⟩:=x a _ r
  exact q
noncomputable def Mut:Option HO->Prop
 | some (.lst _)=>True
 | some (.dK _)=>True
 | some (.dT _)=>True
 | some (.set _ _)=>True
 | some (.ins _ _ _)=>True
 | some (.ext _)=>True
 | _=>False
section
variable {P:Program}{w:aU}{H:Hp}{h h':Heap}{x e:Addr}{o':HO}
theorem HOk.write (ok:HOk P w H h) (mu:Mut (H x)) (he:e=x\/H e=some (.own x)) (k:∀b u,b≠e->h.get? b=some u->h'.get? b=some u) (heo:∃u,h'.get? e=some u)
  (new:jW P w (upd H x o') h' x o'):HOk P w (upd H x o') h':=λb u q=>by
 have nown:∀c y,H c=some (.own y)->c≠x:=λc y r z=>by subst z;rw [r] at mu;exact mu
 have ntup:∀c xs,H c=some (.tup xs)->c≠x:=λc xs r z=>by subst z;rw [r] at mu;exact mu
 by_cases hb:b=x
 ·subst hb;rw [j5] at q;cases q;exact new
 ·rw [j6 hb] at q
  by_cases hbe:b=e
  ·have q':H b=some (.own x):=by
    rcases he with z | z
    ·exact absurd (hbe.trans z) hb
    ·rw [hbe];exact z
   rw [q] at q';cases q'
   obtain ⟨v,hv⟩:=heo
   exact ⟨v,by rw [hbe];exact hv⟩
  ·refine (ok b u q).stay (λc v hc r=>k c v ?_ r) (λc r=>by rw [j6 (nown c b r)];exact r) λc xs r=>by rw [j6 (ntup c xs r)];exact r
   rcases hc with rfl | hc
   ·exact hbe
   ·rintro rfl
    rcases he with z | z
    ·exact nown c b hc z
    ·rw [hc] at z;cases z;exact hb rfl
end
structure Un (fs ex:List Addr) (H H':Hp) (h h':Heap):Prop where
 keep:∀b o,h.get? b=some o->H b=none->b∉fs->b∉ex->h'.get? b=some o
 slot:∀b o,h.get? b=some o->H b=none->b∈fs->b∉ex->∃sl,h'.get? b=some { o with slots:=sl }
 free:∀b o,h.get? b=some o->H b=none->b∉ex->H' b=none
 there:∀b o,h.get? b=some o->b∉ex->∃o',h'.get? b=some o'
 tups:∀b xs,H b=some (.tup xs)->H' b=some (.tup xs)
 frzs:∀b o u,H b=some (.frz o u)->H' b=some (.frz o u)
 tbls:∀b ps,H b=some (.tbl ps)->∃more,H' b=some (.tbl (ps++more))
section
variable {fs fs' ex ex':List Addr}{H H1 H2:Hp}{h h1 h2 h':Heap}{a x e:Addr}{o:HO}
theorem Un.any (u:Un fs ex H H1 h h1) {b:Addr}{ob:Obj}(q:h.get? b=some ob) (n:H b=none) (hx:b∉ex):∃sl,h1.get? b=some { ob with slots:=sl }:=by
 by_cases hb:b∈fs
 ·exact u.slot b ob q n hb hx
 ·exact ⟨ob.slots,u.keep b ob q n hb hx⟩
theorem Un.kept (k:∀b u,h.get? b=some u->h'.get? b=some u):Un fs ex H H h h' :=
 ⟨λb ob q _ _ _=>k b ob q,λb ob q _ _ _=>⟨ob.slots,k b ob q⟩,λ_ _ _ n _=>n,λb ob q _=>⟨ob,k b ob q⟩,λ_ _ q=>q,λ_ _ _ q=>q,λ_ ps q=>⟨#[],by rw [q];simp⟩⟩
theorem Un.refl:Un fs ex H H h h:=Un.kept λ_ _ q=>q
theorem Un.laid (k:∀b u,h.get? b=some u->h'.get? b=some u) (hp:h.objs.size<=a) (hn:H a=none):Un fs ex H (upd H a o) h h' where
 keep:=λb u q _ _ _=>k b u q
 slot:=λb u q _ _ _=>⟨u.slots,k b u q⟩
 free:=λb u q n _=>by rw [j6 (aB (aN (ay q) hp))];exact n
 there:=λb u q _=>⟨u,k b u q⟩
 tups:=λb xs q=>by rw [j6 (j1 q hn)];exact q
 frzs:=λb u xs q=>by rw [j6 (j1 q hn)];exact q
 tbls:=λb ps q=>⟨#[],by rw [j6 (j1 q hn),q];simp⟩
theorem Un.write (mu:Mut (H x)) (he:e=x\/H e=some (.own x)) (k:∀b u,b≠e->h.get? b=some u->h'.get? b=some u) (heo:∃u,h'.get? e=some u):Un fs ex H (upd H x o) h h':=by
 have hx:∀b,H b=none->b≠x:=λb n z=>by subst z;rw [n] at mu;exact mu
 have hb:∀b,H b=none->b≠e:=λb n z=>by
  subst z
  rcases he with r | r
  ·exact hx b n r
  ·rw [n] at r;cases r
 have hm:∀b u,H b=some u->¬Mut (some u)->b≠x:=λb u q nm z=>by subst z;rw [q] at mu;exact nm mu
 refine ⟨λb u q n _ _=>k b u (hb b n) q,λb u q n _ _=>⟨u.slots,k b u (hb b n) q⟩,λb u q n _=>by rw [j6 (hx b n)];exact n,λb u q _=>?_,
  λb xs q=>by rw [j6 (hm b _ q λz=>z)];exact q,λb u xs q=>by rw [j6 (hm b _ q λz=>z)];exact q,λb ps q=>⟨#[],by rw [j6 (hm b _ q λz=>z),q];simp⟩⟩
 by_cases hbe:b=e
 ·subst hbe;exact heo
 ·exact ⟨u,k b u hbe q⟩
end
noncomputable def trk (h:Heap) (H:Hp):List Addr:=(aF h.objs.size).filter λa=>(H a).isSome
noncomputable def kP (h:Heap) (H:Hp):Heap:=PySem.W.hideAll h (trk h H)
theorem ZQ (h:Heap) (H:Hp):(kP h H).objs.size=h.objs.size:=PySem.W.hideAll_size _ _
theorem YZ {h:Heap}{H:Hp}{b:Addr}{o:Obj}(e:h.get? b=some o) (n:H b=none):(kP h H).get? b=some o :=
 PySem.W.hideAll_get _ e λhm=>by
  have q:(H b).isSome=true:=(List.mem_filter.mp hm).2
  rw [n] at q;simp at q
theorem U7 {h:Heap}{H:Hp}{b:Addr}{o:Obj}(e:(kP h H).get? b=some o):h.get? b=some o/\H b=none:=by
 have e':h.get? b=some o:=PySem.W.of_hideAll (trk h H) e
 refine ⟨e',?_⟩
 cases q:H b with
 | none=>rfl
 | some x =>
  have hm:b∈trk h H:=List.mem_filter.mpr ⟨List.mem_range.mpr (ay e'),by simp [q]⟩
  have z:(kP h H).get? b=none:=PySem.W.hideAll_none (trk h H) hm
  rw [z] at e;cases e
noncomputable def Ul (g h:Heap) (L:Addr):List (Addr×Obj):=(aF h.objs.size).filterMap λa=>if a=L\/(g.get? a).isSome=true then none else (h.get? a).map λo=>(a,o)
noncomputable def yD (g h:Heap) (L d:Addr):List (Addr×Obj):=(Ul g h L).filter λp=>decide (p.1≠d)
end L2
namespace L2
structure Mod (K:ag) (mg:Str->Option af) (base:Heap):Prop where
 kin:K.In base
 glob:base.Ns mainGlobals mg
 blt:∃mb,base.Ns lO mb/\∀x:Str,x ≠ "__name__" -> mb x=fC x
 nolimit:base.NoLimit
structure Cx where
 prog:Program
 w:aU
 K:ag
 mg:Str->Option af
 base:Heap
 A:bb
 N:List Str
 s₀:Shared
 H₀:Hp
 env:Env
 outer:List Env
 stack:List Env
 ex:List Addr
 fn:Str->Bool
 calm:Bool
 pn:List (Addr×Obj)
 xe:af->Shared->Prop
noncomputable def frs (l:List Env):List Addr:=l.filterMap (·.frame)
noncomputable abbrev Cx.fs (X:Cx):List Addr:=frs X.outer
noncomputable def Vis (sc:Scope) (x:Str):Prop:=sc.names.lookup x=some .local\/sc.names.lookup x=some .cell\/sc.names.lookup x=some .free
noncomputable def Loc (sc:Scope) (x:Str):Prop:=sc.names.lookup x=some .local\/sc.names.lookup x=some .cell
noncomputable def Look (env:Env) (h:Heap) (m:Str->Option af) (x:Str) (u:af):Prop :=
 (env.kindOf x=some .local/\m x=some u)\/((env.kindOf x=some .cell\/env.kindOf x=some .free)/\∃c,env.cells.lookup x=some c/\h.IsCell c (some u))
structure Cx.Ok (X:Cx):Prop where
 mod:Mod X.K X.mg X.base
 kind:X.env.scope.kind = .function
 glob:X.env.globals=mainGlobals
 blt:X.env.builtins=lO
 above:X.s₀.heap.objs.size<=X.env.locals
 inj:∀x y c,X.env.cells.lookup x=some c->X.env.cells.lookup y=some c->x=y
 has:∀x,(X.env.kindOf x=some .cell\/X.env.kindOf x=some .free)->∃c,X.env.cells.lookup x=some c
 cab:∀x c,X.fn x=true->X.env.cells.lookup x=some c->X.s₀.heap.objs.size<=c
 hd:X.calm=true->X.A.handled=none
 frames:X.A.frames=some X.stack
 stk:X.stack=X.outer\/(X.stack=X.env::X.outer/\X.env.frame=some X.env.locals)
 exf:∀b∈X.ex,b≠X.env.locals/\∀x c,X.env.cells.lookup x=some c->c≠b
 bs:∀b o,X.base.get? b=some o->X.s₀.heap.get? b=some o/\X.H₀ b=none
 bsz:X.base.objs.size<=X.s₀.heap.objs.size
 noex:∀b o,X.base.get? b=some o->b∉X.ex
 exfs:∀b∈X.ex,b∉X.fs
 funs:X.s₀.heap.FunFrames X.base X.outer
 frf:∀b∈X.fs,X.H₀ b=none
structure Inv (X:Cx) (pins:List (Addr×Obj)) (σ:List (Option V)) (H:Hp) (s:Shared):Prop where
 ok:X.Ok
 os:s.os=X.s₀.os
 bare:i5 s.gens
 base:Un X.fs X.ex X.H₀ H X.s₀.heap s.heap
 loc:∃m,s.heap.Ns X.env.locals m/\∀(i:Nat) (x:Str) (v:V),X.N[i]? = some x->σ[i]? = some (some v)->Vis X.env.scope x->∃u,jA v u/\Look X.env s.heap m x u
 cell:∀x c,X.env.cells.lookup x=some c->∃v,s.heap.IsCell c v
 free:H X.env.locals=none
 freeC:∀x c,X.env.cells.lookup x=some c->H c=none
 pin:∀p∈X.pn++pins,s.heap.get? p.1=some p.2/\H p.1=none/\p.1≠X.env.locals/\p.1∉X.fs/\∀v,p.2.data≠.cell v
 hok:HOk X.prog X.w H s.heap
 len:σ.length=X.N.length
section
variable {X:Cx}{pins:List (Addr×Obj)}{σ:List (Option V)}{H H':Hp}{s:Shared}{h':Heap}
theorem Cx.Ok.nofr (ok:X.Ok) {b:Addr}{o:Obj}(e:X.base.get? b=some o):b∉X.fs:=λhb=>by
 have:=(ok.funs.mem hb).1
 rw [e] at this;cases this
theorem Inv.bs (I:Inv X pins σ H s):∀b o,X.base.get? b=some o->s.heap.get? b=some o/\H b=none:=λb o e =>
 ⟨I.base.keep b o (I.ok.bs b o e).1 (I.ok.bs b o e).2 (I.ok.nofr e) (I.ok.noex b o e),I.base.free b o (I.ok.bs b o e).1 (I.ok.bs b o e).2 (I.ok.noex b o e)⟩
theorem Inv.bk (I:Inv X pins σ H s):∀b o,X.base.get? b=some o->s.heap.get? b=some o:=λb o e=>(I.bs b o e).1
theorem Inv.mod (I:Inv X pins σ H s):Mod X.K X.mg X.base:=I.ok.mod
theorem Inv.kIn (I:Inv X pins σ H s):X.K.In s.heap:=I.ok.mod.kin.keeps I.bk
theorem Inv.lt (I:Inv X pins σ H s):X.env.locals<s.heap.objs.size:=let ⟨_,hn,_⟩:=I.loc;hn.lt
theorem Inv.sz (I:Inv X pins σ H s):X.s₀.heap.objs.size<=s.heap.objs.size:=aG I.ok.above (eO I.lt)
theorem Inv.nofs (I:Inv X pins σ H s) {a:Addr}(h:s.heap.objs.size<=a):a∉X.fs:=λhb=>by
 obtain ⟨_,o,ho,_⟩:=I.ok.funs.mem hb
 exact absurd (aN (ay ho) (aG I.sz h)) (cu _)
theorem Inv.cne (I:Inv X pins σ H s):∀x c,X.env.cells.lookup x=some c->c≠X.env.locals:=λx c e z=>by
 obtain ⟨v,o,ho,hd⟩:=I.cell x c e
 obtain ⟨m,⟨o',es,ep,ho',hd',_⟩,_⟩:=I.loc
 rw [z,ho'] at ho;cases ho;rw [hd'] at hd;cases hd
theorem Inv.funs (I:Inv X pins σ H s):s.heap.FunFrames X.base X.outer:=by
 have all:∀(l:List Env),(∀b∈frs l,b∈X.fs)->X.s₀.heap.FunFrames X.base l->s.heap.FunFrames X.base l:=by
  intro l
  induction l with
  | nil=>intro _ _;trivial
  | cons env r ih =>
   intro hs hl
   obtain ⟨hk,⟨L,o,hf,hn,ho,hd⟩,hr⟩:=hl
   have hL:L∈X.fs:=hs L (by unfold frs;rw [iA,hf];exact aH)
   obtain ⟨sl,e⟩:=I.base.slot L o ho (I.ok.frf L hL) hL λz=>I.ok.exfs L z hL
   exact ⟨hk,⟨L,_,hf,hn,e,hd⟩,ih (λb hb=>hs b (by unfold frs;rw [iA,hf];exact aD _ hb)) hr⟩
 exact all X.outer (λ_ hb=>hb) I.ok.funs
theorem Inv.stack (I:Inv X pins σ H s):s.heap.FunFrames X.base X.stack:=by
 rcases I.ok.stk with e | ⟨e,hf⟩
 ·rw [e];exact I.funs
 ·rw [e]
  obtain ⟨m,hn,_⟩:=I.loc
  refine .cons (by rw [I.ok.kind];decide) hf hn ?_ I.funs
  exact Heap.get?_none_of_le (aG I.ok.bsz I.ok.above)
theorem Inv.stkSub (I:Inv X pins σ H s):∀b∈frs X.stack,b∈X.env.locals::X.fs:=λb hb=>by
 rcases I.ok.stk with e | ⟨e,hf⟩
 ·rw [e] at hb;exact aD _ hb
 ·rw [e] at hb
  unfold frs at hb
  rw [iA,hf] at hb
  exact hb
theorem Inv.stkFree (I:Inv X pins σ H s):∀b∈frs X.stack,H b=none:=λb hb=>by
 rcases List.mem_cons.mp (I.stkSub b hb) with e | hb
 ·rw [e];exact I.free
 ·obtain ⟨_,o,ho,_⟩:=I.ok.funs.mem hb
  exact I.base.free b o ho (I.ok.frf b hb) λz=>I.ok.exfs b z hb
theorem Inv.step {g':Array sL}{t':Nat}{d':Drawn}{ch:List Addr}(I:Inv X pins σ H s)
  (hch:∀b∈ch,(b∈X.ex\/X.s₀.heap.objs.size<=b)/\b≠X.env.locals/\(∀x c,X.env.cells.lookup x=some c->c≠b)/\∀p∈X.pn++pins,p.1≠b)
  (keep:∀b o,b≠X.env.locals->b∉X.fs->b∉ch->s.heap.get? b=some o->H b=none->h'.get? b=some o)
  (slot:∀b o,b≠X.env.locals->b∈X.fs->b∉ch->s.heap.get? b=some o->H b=none->∃sl,h'.get? b=some { o with slots:=sl }) (free:∀b o,b∉ch->s.heap.get? b=some o->H b=none->H' b=none)
  (there:∀b o,b∉ch->s.heap.get? b=some o->∃o',h'.get? b=some o')
  (tups:∀b xs,H b=some (.tup xs)->H' b=some (.tup xs)) (frzs:∀b o u,H b=some (.frz o u)->H' b=some (.frz o u)) (tbls:∀b ps,H b=some (.tbl ps)->∃more,H' b=some (.tbl (ps++more)))
  (ns:∀m,s.heap.Ns X.env.locals m->h'.Ns X.env.locals m) (hok:HOk X.prog X.w H' h') (hg:i5 g') :
  Inv X pins σ H' { s with heap:=h',gens:=g',drawn:=d',toks:=t' }:=by
 have neL:∀b o,X.s₀.heap.get? b=some o->b≠X.env.locals:=λb o e=>aB (aN (ay e) I.ok.above)
 have neC:∀b o,X.s₀.heap.get? b=some o->b∉X.ex->b∉ch:=λb o e hx hb=>by
  rcases (hch b hb).1 with z | z
  ·exact hx z
  ·exact absurd (aN (ay e) z) (cu _)
 have cellK:∀x c,X.env.cells.lookup x=some c->∀v,s.heap.IsCell c v->h'.IsCell c v:=λx c e v ⟨o,ho,hd⟩=>by
  have nch:c∉ch:=λz=>(hch c z).2.2.1 x c e rfl
  by_cases hc:c∈X.fs
  ·obtain ⟨sl,q⟩:=slot c o (I.cne x c e) hc nch ho (I.freeC x c e)
   exact ⟨_,q,hd⟩
  ·exact ⟨o,keep c o (I.cne x c e) hc nch ho (I.freeC x c e),hd⟩
 refine ⟨I.ok,I.os,hg,⟨λb o e n hb hx=>?_,λb o e n hb hx=>?_,λb o e n hx=>?_,λb o e hx=>?_,λb xs e=>tups b xs (I.base.tups b xs e),λb o xs e=>frzs b o xs (I.base.frzs b o xs e),λb ps e=>?_⟩,?_,λx c e=>?_,?_,λx c e=>?_,λp hp=>?_,hok,I.len⟩
 ·exact keep b o (neL b o e) hb (neC b o e hx) (I.base.keep b o e n hb hx) (I.base.free b o e n hx)
 ·obtain ⟨sl,e1⟩:=I.base.slot b o e n hb hx
  obtain ⟨sl',e2⟩:=slot b _ (neL b o e) hb (neC b o e hx) e1 (I.base.free b o e n hx)
  exact ⟨sl',e2⟩
 ·obtain ⟨o',e1⟩:=I.base.there b o e hx
  exact free b o' (neC b o e hx) e1 (I.base.free b o e n hx)
 ·obtain ⟨o',e1⟩:=I.base.there b o e hx
  exact there b o' (neC b o e hx) e1
 ·obtain ⟨m1,e1⟩:=I.base.tbls b ps e
  obtain ⟨m2,e2⟩:=tbls b _ e1
  exact ⟨m1++m2,by rw [e2,Array.append_assoc]⟩
 ·obtain ⟨m,hn,hl⟩:=I.loc
  refine ⟨m,ns m hn,λi x v e1 e2 e3=>?_⟩
  obtain ⟨u,r,l⟩:=hl i x v e1 e2 e3
  refine ⟨u,r,?_⟩
  rcases l with l | ⟨k,c,e,z⟩
  ·exact .inl l
  ·exact .inr ⟨k,c,e,cellK x c e _ z⟩
 ·obtain ⟨v,z⟩:=I.cell x c e
  exact ⟨v,cellK x c e v z⟩
 ·obtain ⟨m,⟨o,_,_,ho,_⟩,_⟩:=I.loc
  exact free _ o (λz=>(hch _ z).2.1 rfl) ho I.free
 ·obtain ⟨v,o,ho,hd⟩:=I.cell x c e
  exact free c o (λz=>(hch c z).2.2.1 x c e rfl) ho (I.freeC x c e)
 ·obtain ⟨e,n,ne,nf,d⟩:=I.pin p hp
  have nch:p.1∉ch:=λz=>(hch p.1 z).2.2.2 p hp rfl
  exact ⟨keep p.1 p.2 ne nf nch e n,free p.1 p.2 nch e n,ne,nf,d⟩
theorem Inv.un {t':Nat}(I:Inv X pins σ H s) (u:Un X.fs [] H H' s.heap h') (hok:HOk X.prog X.w H' h'):Inv X pins σ H' { s with heap:=h',toks:=t' }:=by
 obtain ⟨m,⟨o,es,ep,ho,r⟩,_⟩:=id I.loc
 obtain ⟨sl,hL⟩:=u.any ho I.free (by simp)
 exact I.step (g':=s.gens) (d':=s.drawn) (ch:=[]) (λ_ z=>nomatch z) (λb o _ hb _ e n=>u.keep b o e n hb (by simp)) (λb o _ hb _ e n=>u.slot b o e n hb (by simp)) (λb o _ e n=>u.free b o e n (by simp)) (λb o _ e=>u.there b o e (by simp)) u.tups u.frzs u.tbls (λm' hm=>by
  obtain ⟨o',es',ep',ho',r'⟩:=hm
  rw [ho] at ho';cases ho'
  exact ⟨_,es',ep',hL,r'⟩) hok I.bare
theorem Inv.call {g':Array sL}{t':Nat}{d':Drawn}{ch:List Addr}(I:Inv X pins σ H s) (u:Un (frs X.stack) ch H H' s.heap h') (hok:HOk X.prog X.w H' h') (hg:i5 g')
  (hch:∀b∈ch,(b∈X.ex\/X.s₀.heap.objs.size<=b)/\b≠X.env.locals/\(∀x c,X.env.cells.lookup x=some c->c≠b)/\∀p∈X.pn++pins,p.1≠b) :
  Inv X pins σ H' { s with heap:=h',gens:=g',drawn:=d',toks:=t' }:=by
 obtain ⟨m,⟨o,es,ep,ho,r⟩,_⟩:=id I.loc
 obtain ⟨sl,hL⟩:=u.any ho I.free λz=>(hch _ z).2.1 rfl
 exact I.step (ch:=ch) hch (λb o hL hb hc e n=>u.keep b o e n (λz=>(List.mem_cons.mp (I.stkSub b z)).elim hL hb) hc) (λb o _ _ hc e n=>u.any e n hc) (λb o hc e n=>u.free b o e n hc) (λb o hc e=>u.there b o e hc) u.tups u.frzs u.tbls (λm' hm=>by
  obtain ⟨o',es',ep',ho',r'⟩:=hm
  rw [ho] at ho';cases ho'
  exact ⟨_,es',ep',hL,r'⟩) hok hg
theorem Inv.turned {t':Nat}{it:Addr}(I:Inv X pins σ H s) (k:∀b o,b≠it->s.heap.get? b=some o->h'.get? b=some o) (hn:H it=none) (hL:it≠X.env.locals)
  (h1:it∈X.ex\/X.s₀.heap.objs.size<=it) (h2:∀x c,X.env.cells.lookup x=some c->c≠it) (h3:∀p∈X.pn++pins,p.1≠it):Inv X pins σ H { s with heap:=h',toks:=t' }:=by
 have nit:∀b u,H b=some u->b≠it:=λb u e z=>by rw [z,hn] at e;cases e
 refine I.step (g':=s.gens) (d':=s.drawn) (ch:=[it]) (λb hb=>?_) (λb o _ _ hc e _=>k b o (λz=>hc (by simp [z])) e) (λb o _ _ hc e _=>⟨o.slots,k b o (λz=>hc (by simp [z])) e⟩) (λ_ _ _ _ n=>n)
  (λb o hc e=>⟨o,k b o (λz=>hc (by simp [z])) e⟩) (λ_ _ e=>e) (λ_ _ _ e=>e) (λb ps e=>⟨#[],by rw [e];simp⟩) (λm hm=>?_) (λb u e=>?_) I.bare
 ·have e:b=it:=by simpa using hb
  subst e
  exact ⟨h1,hL,h2,h3⟩
 ·obtain ⟨o,es,ep,ho,r⟩:=hm
  exact ⟨o,es,ep,k _ o (cq hL) ho,r⟩
 ·refine (I.hok b u e).stay (λc v hc q=>k c v ?_ q) (λ_ q=>q) λ_ _ q=>q
  rcases hc with z | z
  ·rw [z];exact nit b u e
  ·exact nit c _ z
theorem Inv.tok (I:Inv X pins σ H s) (t:Nat):Inv X pins σ H { s with toks:=t }:=I.un (h':=s.heap) (t':=t) Un.refl I.hok
theorem Inv.kept {t':Nat}(I:Inv X pins σ H s) (k:∀b u,s.heap.get? b=some u->h'.get? b=some u):Inv X pins σ H { s with heap:=h',toks:=t' }:=I.un (Un.kept k) (I.hok.kept k)
theorem Inv.laid {a:Addr}{o:HO}{t':Nat}(I:Inv X pins σ H s) (k:∀b u,s.heap.get? b=some u->h'.get? b=some u) (hp:s.heap.objs.size<=a) (new:jW X.prog X.w (upd H a o) h' a o) :
  Inv X pins σ (upd H a o) { s with heap:=h',toks:=t' }:=I.un (Un.laid k hp (I.hok.fresh hp)) (I.hok.laid k hp new)
theorem Inv.write {x e:Addr}{o:HO}{t':Nat}(I:Inv X pins σ H s) (mu:Mut (H x)) (he:e=x\/H e=some (.own x)) (k:∀b u,b≠e->s.heap.get? b=some u->h'.get? b=some u) (heo:∃u,h'.get? e=some u)
  (new:jW X.prog X.w (upd H x o) h' x o):Inv X pins σ (upd H x o) { s with heap:=h',toks:=t' }:=I.un (Un.write mu he k heo) (I.hok.write mu he k heo new)
theorem Inv.pins_of {pins':List (Addr×Obj)}(I:Inv X pins σ H s) (h:∀p∈pins',s.heap.get? p.1=some p.2/\H p.1=none/\p.1≠X.env.locals/\p.1∉X.fs/\∀v,p.2.data≠.cell v):Inv X pins' σ H s :=
 ⟨I.ok,I.os,I.bare,I.base,I.loc,I.cell,I.free,I.freeC,λp hp=>(List.mem_append.mp hp).elim (λz=>I.pin p (i9 _ z)) (h p),I.hok,I.len⟩
theorem Qn {N:List Str}(hN:N.Nodup) {i j:Nat}{x:Str}(a:N[i]? = some x) (b:N[j]? = some x):i=j:=by
 obtain ⟨h1,e1⟩:=List.getElem?_eq_some_iff.mp a
 obtain ⟨h2,e2⟩:=List.getElem?_eq_some_iff.mp b
 exact (List.getElem_inj hN).mp (e1.trans e2.symm)
theorem gg {M:t6}{A:bb}{E:af->Shared->Prop}{i:Nat}{x:Str}{v:V}{u:af}{Q:Unit->Shared->Prop}(I:Inv X pins σ H s) (hN:X.N.Nodup) (hi:X.N[i]? = some x) (hx:Loc X.env.scope x) (r:jA v u)
  (h:∀s',Inv X pins (σ.set i (some v)) H s'->(∃a,cw a s.heap s'.heap/\(a=X.env.locals\/X.env.cells.lookup x=some a))->Q () s') (hf:X.fn x=true\/X.env.scope.names.lookup x=some .local:=by first | exact .inl rfl | exact .inr rfl | assumption):au M A (sv X.env x u) Q E s:=by
 obtain ⟨m,hn,hl⟩:=id I.loc
 have hcls:(X.env.scope.kind == .class || (X.env.scope.kind == .module && X.env.locals != X.env.globals))=false:=by rw [I.ok.kind];rfl
 have hiσ:i<σ.length:=by rw [I.len];exact (List.getElem?_eq_some_iff.mp hi).1
 have cne:=I.cne
 have tracked:∀{a:Addr} {h':Heap},(∃o,s.heap.get? a=some o/\H a=none)->cw a s.heap h'->HOk X.prog X.w H h':=λ{a h'} ha hs b ob e=>by
  obtain ⟨_,_,hfree⟩:=ha
  refine (I.hok b ob e).stay (λc w' hc q=>(hs.2 c ?_).trans q) (λ_ q=>q) λ_ _ q=>q
  rintro rfl
  rcases hc with rfl | hc
  ·rw [hfree] at e;cases e
  ·rw [hfree] at hc;cases hc
 rcases hx with hk | hk
 ·refine wpAny_storeName_local hk hn (λh' hn' hs=>?_) hcls
  obtain ⟨oL,_,_,hoL,_⟩:=id hn
  refine h _ ⟨I.ok,I.os,I.bare,⟨λb o e n hb hx=>?_,λb o e n hb hx=>?_,I.base.free,λb o e hx=>?_,I.base.tups,I.base.frzs,I.base.tbls⟩,⟨_,hn',λj y v' e1 e2 e3=>?_⟩,λy c e=>?_,I.free,I.freeC,λp hp=>?_,tracked ⟨oL,hoL,I.free⟩ hs,by simpa using I.len⟩ ⟨_,hs,.inl rfl⟩
  ·exact (hs.2 b (aB (aN (ay e) I.ok.above))).trans (I.base.keep b o e n hb hx)
  ·obtain ⟨sl,e1⟩:=I.base.slot b o e n hb hx
   exact ⟨sl,(hs.2 b (aB (aN (ay e) I.ok.above))).trans e1⟩
  ·obtain ⟨o',e1⟩:=I.base.there b o e hx
   exact ⟨o',(hs.2 b (aB (aN (ay e) I.ok.above))).trans e1⟩
  ·by_cases hj:j=i
   ·subst hj
    rw [hi] at e1;cases e1
    rw [lP hiσ] at e2
    cases e2
    exact ⟨u,r,.inl ⟨hk,by simp⟩⟩
   ·rw [mx (cq hj)] at e2
    obtain ⟨u',r',q⟩:=hl j y v' e1 e2 e3
    refine ⟨u',r',?_⟩
    rcases q with ⟨k,e⟩ | ⟨k,c,e,z⟩
    ·refine .inl ⟨k,?_⟩
     have:y≠x:=λe=>hj (Qn hN e1 (e ▸ hi))
     simp [this,e]
    ·exact .inr ⟨k,c,e,z.sameBut hs (cne y c e)⟩
  ·obtain ⟨w',z⟩:=I.cell y c e
   exact ⟨w',z.sameBut hs (cne y c e)⟩
  ·obtain ⟨e,n,ne,nf,d⟩:=I.pin p hp
   exact ⟨(hs.2 p.1 ne).trans e,n,ne,nf,d⟩
 ·have hfn:X.fn x=true:=by
   rcases hf with z | z
   ·exact z
   ·rw [z] at hk;cases hk
  obtain ⟨c,hc⟩:=I.ok.has x (.inl hk)
  obtain ⟨w',z⟩:=I.cell x c hc
  refine wpAny_storeName_cell I.ok.kind hk hc z (λh' hc' hs=>?_)
  obtain ⟨oc,hoc,hocd⟩:=id z
  refine h { s with heap:=h' } ⟨I.ok,I.os,I.bare,⟨λb o e n hb hx=>?_,λb o e n hb hx=>?_,I.base.free,λb o e hx=>?_,I.base.tups,I.base.frzs,I.base.tbls⟩,⟨m,hn.sameBut hs (cq (cne x c hc)),λj y v' e1 e2 e3=>?_⟩,λy c' e=>?_,I.free,I.freeC,λp hp=>?_,tracked ⟨oc,hoc,I.freeC x c hc⟩ hs,by simpa using I.len⟩ ⟨c,hs,.inr hc⟩
  ·exact (hs.2 b (aB (aN (ay e) (I.ok.cab x c hfn hc)))).trans (I.base.keep b o e n hb hx)
  ·obtain ⟨sl,e1⟩:=I.base.slot b o e n hb hx
   exact ⟨sl,(hs.2 b (aB (aN (ay e) (I.ok.cab x c hfn hc)))).trans e1⟩
  ·obtain ⟨o',e1⟩:=I.base.there b o e hx
   exact ⟨o',(hs.2 b (aB (aN (ay e) (I.ok.cab x c hfn hc)))).trans e1⟩
  ·by_cases hj:j=i
   ·subst hj
    rw [hi] at e1;cases e1
    rw [lP hiσ] at e2
    cases e2
    exact ⟨u,r,.inr ⟨.inl hk,c,hc,hc'⟩⟩
   ·rw [mx (cq hj)] at e2
    obtain ⟨u',r',q⟩:=hl j y v' e1 e2 e3
    refine ⟨u',r',?_⟩
    rcases q with q | ⟨k,c',e,z'⟩
    ·exact .inl q
    ·refine .inr ⟨k,c',e,z'.sameBut hs ?_⟩
     rintro rfl
     exact hj (Qn hN e1 (I.ok.inj _ _ _ e hc ▸ hi))
  ·by_cases hcc:c'=c
   ·subst hcc;exact ⟨_,hc'⟩
   ·obtain ⟨w2,z2⟩:=I.cell y c' e
    exact ⟨w2,z2.sameBut hs hcc⟩
  ·obtain ⟨e,n,ne,nf,d⟩:=I.pin p hp
   refine ⟨(hs.2 p.1 ?_).trans e,n,ne,nf,d⟩
   intro q
   rw [q,hoc] at e
   have q':oc=p.2:=aO e
   exact d w' (by rw [<- q'];exact hocd)
theorem wL {M:t6}{A:bb}{E:af->Shared->Prop}{i:Nat}{x:Str}{v:V}{u:af}{Q:Unit->Shared->Prop}(I:Inv X pins σ H s) (hN:X.N.Nodup) (hi:X.N[i]? = some x) (hx:Loc X.env.scope x) (r:jA v u)
  (h:∀s',Inv X pins (σ.set i (some v)) H s'->Q () s') (hf:X.fn x=true\/X.env.scope.names.lookup x=some .local:=by first | exact .inl rfl | exact .inr rfl | assumption):au M A (sv X.env x u) Q E s :=
 gg I hN hi hx r (λs' I' _=>h s' I') hf
theorem Inv.call' {s':Shared}{ch:List Addr}(I:Inv X pins σ H s) (ho:s'.os=s.os) (u:Un (frs X.stack) ch H H' s.heap s'.heap) (hok:HOk X.prog X.w H' s'.heap) (hg:i5 s'.gens)
  (hch:∀b∈ch,(b∈X.ex\/X.s₀.heap.objs.size<=b)/\b≠X.env.locals/\(∀x c,X.env.cells.lookup x=some c->c≠b)/\∀p∈X.pn++pins,p.1≠b):Inv X pins σ H' s':=by
 obtain ⟨h',g',d',t',o'⟩:=s'
 have e:o'=s.os:=ho
 subst e
 exact I.call (g':=g') (t':=t') (d':=d') u hok hg hch
end
noncomputable abbrev XK:=af->Option Addr->Hp->Prop
noncomputable abbrev St:=List (Option V)
noncomputable abbrev VK:=V->Hp->Prop
noncomputable abbrev TE:=St->Hp->VK->Prop
noncomputable abbrev TT:=St->Hp->(Bool->Hp->Prop)->Prop
noncomputable abbrev TA:=St->Hp->(List V->Hp->Prop)->Prop
structure Ends where
 nx:St->Hp->Prop
 rt:VK
 bk:St->Hp->Prop:=λ_ _=>False
 ct:St->Hp->Prop:=λ_ _=>False
noncomputable abbrev TS:=Ends->St->Hp->Prop
noncomputable def EP (X:Cx) (pins:List (Addr×Obj)) (σ:St) (Q:VK) (u:af) (s':Shared):Prop:=∃v H',Inv X pins σ H' s'/\jA v u/\Q v H'
noncomputable def TP (X:Cx) (pins:List (Addr×Obj)) (σ:St) (Q:Bool->Hp->Prop) (b:Bool) (s':Shared):Prop:=∃H',Inv X pins σ H' s'/\Q b H'
noncomputable def AP (X:Cx) (pins:List (Addr×Obj)) (σ:St) (Q:List V->Hp->Prop) (us:List af) (s':Shared):Prop:=∃vs H',Inv X pins σ H' s'/\jz vs us/\Q vs H'
noncomputable def SP (X:Cx) (pins:List (Addr×Obj)) (D:Ends) (f:Flow) (s':Shared):Prop :=
 match f with
 | .next=>∃σ' H',Inv X pins σ' H' s'/\D.nx σ' H'
 | .brk=>∃σ' H',Inv X pins σ' H' s'/\D.bk σ' H'
 | .cont=>∃σ' H',Inv X pins σ' H' s'/\D.ct σ' H'
 | .ret u=>∃v σ' H',Inv X pins σ' H' s'/\jA v u/\D.rt v H'
noncomputable def PE (X:Cx) (e:Expr) (t:TE):Prop :=
 ∀(pins:List (Addr×Obj)) (s:Shared) (σ:St) (H:Hp) (Q:VK),Inv X pins σ H s->t σ H Q->au (aC X.prog X.w) X.A (eval e X.env) (EP X pins σ Q) X.xe s
noncomputable def PT (X:Cx) (e:Expr) (t:TT):Prop :=
 ∀(pins:List (Addr×Obj)) (s:Shared) (σ:St) (H:Hp) (Q:Bool->Hp->Prop),Inv X pins σ H s->t σ H Q->au (aC X.prog X.w) X.A (isTrue e X.env (eval e X.env)) (TP X pins σ Q) X.xe s
noncomputable def PW (X:Cx) (e:Expr) (t:TT):Prop :=
 ∀(whole:Sem af) (pins:List (Addr×Obj)) (s:Shared) (σ:St) (H:Hp) (Q:Bool->Hp->Prop),Inv X pins σ H s->t σ H Q->au (aC X.prog X.w) X.A (isTrue e X.env whole) (TP X pins σ Q) X.xe s
theorem PW.pt {X:Cx}{e:Expr}{t:TT}(h:PW X e t):PT X e t:=h _
noncomputable def PA (X:Cx) (es:List Expr) (t:TA):Prop :=
 ∀(pos:Pos) (pins:List (Addr×Obj)) (s:Shared) (σ:St) (H:Hp) (Q:List V->Hp->Prop),Inv X pins σ H s->t σ H Q->au (aC X.prog X.w) X.A (spliced (cF pos (aK es X.env))) (AP X pins σ Q) X.xe s
noncomputable def PS (X:Cx) (st:Stmt) (t:TS):Prop :=
 ∀(pins:List (Addr×Obj)) (s:Shared) (σ:St) (H:Hp) (D:Ends),Inv X pins σ H s->t D σ H->au (aC X.prog X.w) X.A (exec st X.env) (SP X pins D) X.xe s
noncomputable def PSs (X:Cx) (st:List Stmt) (t:TS):Prop :=
 ∀(pins:List (Addr×Obj)) (s:Shared) (σ:St) (H:Hp) (D:Ends),Inv X pins σ H s->t D σ H->au (aC X.prog X.w) X.A (execs st X.env) (SP X pins D) X.xe s
theorem thn {α:Type}{t:Sem α}{Q Q':α->Shared->Prop}{M:t6}{A:bb}{E:af->Shared->Prop}{s:Shared}(h:au M A t Q E s) (hQ:∀a s,Q a s->Q' a s):au M A t Q' E s:=b7 h hQ λ_ _ x=>x
end L2
namespace L2
section
variable {X:Cx}
theorem bin {a b:Expr}{ta tb:TE}(ha:PE X a ta) (hb:PE X b tb) {pins:List (Addr×Obj)}{s:Shared}{σ:St}{H:Hp}{R:V->V->Hp->Prop}(I:Inv X pins σ H s) (h:ta σ H λx H1=>tb σ H1 λy H2=>R x y H2)
  {α:Type} {Q:α->Shared->Prop} {f:af->af->Sem α}
  (hf:∀v u s2 x y H2,Inv X pins σ H2 s2->jA x v->jA y u->R x y H2->au (aC X.prog X.w) X.A (f v u) Q X.xe s2) :
  au (aC X.prog X.w) X.A (eval a X.env) (λv s₁=>au (aC X.prog X.w) X.A (eval b X.env) (λu s₂=>au (aC X.prog X.w) X.A (f v u) Q X.xe s₂) X.xe s₁) X.xe s:=by
 refine thn (ha pins s σ H _ I h) λv s1 ⟨x,H1,I1,r1,q1⟩=>?_
 refine thn (hb pins s1 σ H1 _ I1 q1) λu s2 ⟨y,H2,I2,r2,q2⟩=>?_
 exact hf v u s2 x y H2 I2 r1 r2 q2
noncomputable def XC (i:Nat):TE:=λσ H Q=>∃v,σ[i]? = some (some v)/\Q v H
noncomputable def tC (v:V):TE:=λ_ H Q=>Q v H
theorem WC {i:Nat}{x:Str}{pos:Pos}(hN:X.N[i]? = some x) (hv:Vis X.env.scope x) (hd:(x == ("__debug__" : Str))=false:=by decide) (hcd:(x == ("__classdict__" : Str))=false:=by decide):PE X (.Name x pos) (XC i):=by
 intro pins s σ H Q I h
 obtain ⟨v,e,h⟩:=h
 obtain ⟨m,hn,hl⟩:=I.loc
 obtain ⟨u,r,l⟩:=hl i x v hN e hv
 have fin:EP X pins σ Q u s:=⟨v,H,I,r,h⟩
 rcases l with ⟨hk,hm⟩ | ⟨hk,c,hc,hcell⟩
 ·exact rj (my I.ok.kind hk hn hm fin) hd
 ·rcases hk with hk | hk
  ·exact rj (mW I.ok.kind hk hc hcell fin) hd
  ·exact rj (wpAny_loadName_free I.ok.kind hk hc hcell fin hcd) hd
theorem j7 {i j pos}:PE X (.Constant (.int i) j pos) (tC (.int i)):=λ_ _ _ H _ I h=>wpAny_Constant_int ⟨.int i,H,I.tok _,⟨_,rfl⟩,h⟩
theorem kT {b j pos}:PE X (.Constant (.bool b) j pos) (tC (.bl b)):=λ_ _ _ H _ I h=>Constant_bool ⟨.bl b,H,I,rfl,h⟩
theorem Js {j pos}:PE X (.Constant .none j pos) (tC .non):=λ_ _ _ H _ I h=>Constant_none ⟨.non,H,I,rfl,h⟩
theorem jB {x j pos}:PE X (.Constant (.str x) j pos) (tC (.str x)):=λ_ _ _ H _ I h=>Calls.Constant_str ⟨.str x,H,I.tok _,⟨_,rfl⟩,h⟩
noncomputable def Gl (X:Cx) (x:Str):Prop:=X.env.kindOf x=some .globalImplicit
theorem vU {E:af->Shared->Prop}{pins:List (Addr×Obj)}{s:Shared}{σ:St}{H:Hp}{x:Str}{u:af}{pos:Pos}{Q:af->Shared->Prop}(I:Inv X pins σ H s) (hg:Gl X x) (hm:X.mg x=some u) (h:Q u s)
  (hd:(x == ("__debug__" : Str))=false:=by decide):au (aC X.prog X.w) X.A (eval (.Name x pos) X.env) Q E s :=
 iK I.ok.kind hg (Calls.loadGlobal_global (by rw [I.ok.glob];exact I.mod.glob.keeps I.bk) hm h) hd
theorem y7 {E:af->Shared->Prop}{pins:List (Addr×Obj)}{s:Shared}{σ:St}{H:Hp}{x:Str}{u:af}{pos:Pos}{Q:af->Shared->Prop}(I:Inv X pins σ H s) (hg:Gl X x) (hm:X.mg x=none) (hv:fC x=some u) (h:Q u s)
  (hn:x ≠ "__name__":=by decide) (hd:(x == ("__debug__" : Str))=false:=by decide):au (aC X.prog X.w) X.A (eval (.Name x pos) X.env) Q E s:=by
 obtain ⟨mb,h1,h2⟩:=I.mod.blt
 exact iK I.ok.kind hg (Calls.loadGlobal_builtin (by rw [I.ok.glob];exact I.mod.glob.keeps I.bk) hm (by rw [I.ok.blt];exact h1.keeps I.bk) ((h2 x hn).trans hv) h) hd
theorem xj {x:Str}{v:V}{u:af}{pos:Pos}(hg:Gl X x) (hm:X.mg x=some u) (r:jA v u) (hd:(x == ("__debug__" : Str))=false:=by decide):PE X (.Name x pos) (tC v) :=
 λ_ _ _ H _ I h=>vU I hg hm ⟨v,H,I,r,h⟩ hd
theorem xv {x:Str}{v:V}{u:af}{pos:Pos}(hg:Gl X x) (hm:X.mg x=none) (hv:fC x=some u) (r:jA v u) (hn:x ≠ "__name__":=by decide) (hd:(x == ("__debug__" : Str))=false:=by decide):PE X (.Name x pos) (tC v) :=
 λ_ _ _ H _ I h=>y7 I hg hm hv ⟨v,H,I,r,h⟩ hn hd
variable {a b:Expr}{ta tb:TE}{pos:Pos}
noncomputable def PC (X:Cx) (op:rm) (a b:Expr) (t:TE):Prop :=
 ∀(pins:List (Addr×Obj)) (s:Shared) (σ:St) (H:Hp) (Q:VK),Inv X pins σ H s->t σ H Q ->
  au (aC X.prog X.w) X.A (eval a X.env) (λv s₁=>au (aC X.prog X.w) X.A (eval b X.env) (λu s₂=>au (aC X.prog X.w) X.A (c5 op v u) (EP X pins σ Q) X.xe s₂) X.xe s₁) X.xe s
theorem YW (b:Expr) {op:rm}(h:op≠.In) (h2:op≠.NotIn):eB op b=false:=by
 have e1:(op == CmpOp.In)=false:=by cases op <;> first | rfl | exact absurd rfl h
 have e2:(op == CmpOp.NotIn)=false:=by cases op <;> first | rfl | exact absurd rfl h2
 cases b <;> simp [eB,e1,e2]
noncomputable def tB (t:TE):TT:=λσ H Q=>t σ H λx H1=>∃c,x = .bl c/\Q c H1
theorem WA {op:rm}{t:TE}(h:PC X op a b t) (h1:eB op b=false:=by first | exact YW _ ⋯ ⋯ | rfl):PT X (.Compare a [op] [b] pos) (tB t):=by
 intro pins s σ H Q I hw
 refine mj (thn (h pins s σ H _ I hw) λv s1 h1=>thn h1 λu s2 h2=>thn h2 λc s3 ⟨x,H1,I1,r1,q1⟩=>?_) h1
 obtain ⟨d,rfl,q⟩:=q1
 cases r1
 exact bY ⟨H1,I1,q⟩
theorem ya {e:Expr}{t:TE}(h:PE X e t) (he:∀whole,isTrue e X.env whole=(do let v <- whole;fD e.pos;fe [v] (truthy v)):=by intro _;rfl):PT X e (tB t):=by
 intro pins s σ H Q I hw
 refine isTrue_plain (thn (h pins s σ H _ I hw) λv s1 ⟨x,H1,I1,r1,q1⟩=>?_) (he _)
 obtain ⟨d,rfl,q⟩:=q1
 cases r1
 exact bY ⟨H1,I1,q⟩
variable {tA tB':TT}{yD:List Expr}
noncomputable def tAnd (t u:TT):TT:=λσ H Q=>t σ H λc H1=>if c=true then u σ H1 Q else Q false H1
noncomputable def tOr (t u:TT):TT:=λσ H Q=>t σ H λc H1=>if c=true then Q true H1 else u σ H1 Q
noncomputable def tNot (t:TT):TT:=λσ H Q=>t σ H λc H1=>Q (!c) H1
theorem VF (ha:PT X a tA):PW X (.BoolOp .And [a] pos) tA:=by
 intro wh pins s σ H Q I h
 refine isTrue_and (thn (ha pins s σ H Q I h) λc s1 e=>?_)
 cases c with
 | true=>exact isTrue_and_nil e
 | false=>exact e
theorem YV (ha:PT X a tA):PW X (.BoolOp .Or [a] pos) tA:=by
 intro wh pins s σ H Q I h
 refine isTrue_or (thn (ha pins s σ H Q I h) λc s1 e=>?_)
 cases c with
 | false=>exact isTrue_or_nil e
 | true=>exact e
theorem UP (ha:PT X a tA) (hb:PW X (.BoolOp .And (b::yD) pos) tB'):PW X (.BoolOp .And (a::b::yD) pos) (tAnd tA tB'):=by
 intro wh pins s σ H Q I h
 refine isTrue_and (thn (ha pins s σ H _ I h) λc s1 ⟨H1,I1,q1⟩=>?_)
 cases c with
 | true=>exact hb wh pins s1 σ H1 Q I1 q1
 | false=>exact ⟨H1,I1,q1⟩
theorem UC (ha:PT X a tA) (hb:PW X (.BoolOp .Or (b::yD) pos) tB'):PW X (.BoolOp .Or (a::b::yD) pos) (tOr tA tB'):=by
 intro wh pins s σ H Q I h
 refine isTrue_or (thn (ha pins s σ H _ I h) λc s1 ⟨H1,I1,q1⟩=>?_)
 cases c with
 | true=>exact ⟨H1,I1,q1⟩
 | false=>exact hb wh pins s1 σ H1 Q I1 q1
theorem xl (ha:PT X a tA):PT X (.UnaryOp .Not a pos) (tNot tA):=by
 intro pins s σ H Q I h
 exact isTrue_not (ha pins s σ H (λc H1=>Q (!c) H1) I h)
noncomputable def Gy (ta tb:TE):TE:=λσ H Q=>ta σ H λx H1=>∃c,x = .bl c/\if c=true then tb σ H1 Q else Q (.bl false) H1
noncomputable def WI (ta:TE):TE:=λσ H Q=>ta σ H λx H1=>∃c,x = .bl c/\Q (.bl (!c)) H1
theorem yp {op}{t:TE}(h:PE X a t):PE X (.BoolOp op [a] pos) t:=λpins s σ H Q I hw=>BoolOp_one (h pins s σ H Q I hw)
theorem yc (ha:PE X a ta) (hb:PE X (.BoolOp .And (b::yD) pos) tb):PE X (.BoolOp .And (a::b::yD) pos) (Gy ta tb):=by
 intro pins s σ H Q I h
 refine BoolOp_and (thn (ha pins s σ H _ I h) λv s1 ⟨x,H1,I1,r1,q1⟩=>?_)
 obtain ⟨c,rfl,q1⟩:=q1
 cases r1
 refine bY ?_
 cases c with
 | true=>exact hb pins s1 σ H1 Q I1 q1
 | false=>exact ⟨.bl false,H1,I1,rfl,q1⟩
theorem UO (ha:PE X a ta):PE X (.UnaryOp .Not a pos) (WI ta):=by
 intro pins s σ H Q I h
 refine UnaryOp_ (thn (ha pins s σ H _ I h) λv s1 ⟨x,H1,I1,r1,q1⟩=>?_)
 obtain ⟨c,rfl,q1⟩:=q1
 cases r1
 exact not_of (bY ⟨.bl (!c),H1,I1,rfl,q1⟩)
noncomputable def tIf (t:TT) (ta tb:TE):TE:=λσ H Q=>t σ H λc H1=>if c=true then ta σ H1 Q else tb σ H1 Q
theorem Yo {c:Expr}(hc:PT X c tA) (ha:PE X a ta) (hb:PE X b tb):PE X (.IfExp c a b pos) (tIf tA ta tb):=by
 intro pins s σ H Q I h
 refine wpAny_IfExp (thn (hc pins s σ H _ I h) λd s1 ⟨H1,I1,q1⟩=>?_)
 cases d with
 | true=>exact ha pins s1 σ H1 Q I1 q1
 | false=>exact hb pins s1 σ H1 Q I1 q1
end
end L2
namespace L2
noncomputable def SqL (K:ag) (H:Hp) (a:Addr) (xs:List V):Prop :=
 Rd H a (.lst xs) \/
  ∃(o:Obj) (its:Array af) (n:Nat),K.lookup a=some o/\o.cls = .type "list" /\ o.dict=none/\o.data = .seq its n/\its.size<=sizeLine/\jz xs its.toList
noncomputable def SqT (K:ag) (H:Hp) (a:Addr) (xs:List V):Prop :=
 Rd H a (.tup xs) \/
  ∃(o:Obj) (its:Array af) (n:Nat),K.lookup a=some o/\o.cls = .type "tuple" /\ o.data = .seq its n/\its.size<=sizeLine/\jz xs its.toList
noncomputable def absV:af->Option V
 | .none=>some .non
 | .bool b=>some (.bl b)
 | .int i _=>some (.int i)
 | .str x _=>some (.str x)
 | .bytes b _=>some (.byt b)
 | .float b _=>some (.flt b)
 | .ref a=>some (.ref a)
 | .type n=>some (.ty n)
 | _=>none
theorem jA.abs {x:V}{u:af}(r:jA x u):absV u=some x:=by
 cases x with
 | non=>cases r;rfl
 | bl _=>cases r;rfl
 | int _=>obtain ⟨t,rfl⟩:=r;rfl
 | str _=>obtain ⟨t,rfl⟩:=r;rfl
 | byt _=>obtain ⟨t,rfl⟩:=r;rfl
 | flt _=>obtain ⟨t,rfl⟩:=r;rfl
 | ref _=>cases r;rfl
 | ty _=>cases r;rfl
theorem jA.inj {x y:V}{u:af}(r:jA x u) (q:jA y u):x=y:=aO (r.abs.symm.trans q.abs)
theorem jz.inj:∀{xs ys:List V}{us:List af},jz xs us->jz ys us->xs=ys
 | _,_,_,.nil,.nil=>rfl
 | _,_,_,.cons r t,.cons r' t'=>by rw [r.inj r',jz.inj t t']
section
variable {X:Cx}{pins:List (Addr×Obj)}{σ:St}{H:Hp}{s:Shared}{a:Addr}{xs ys:List V}
theorem SqL.of {K:ag}(h:H a=some (.lst xs)):SqL K H a xs:=.inl (.inl h)
theorem SqT.of {K:ag}(h:H a=some (.tup xs)):SqT K H a xs:=.inl (.inl h)
theorem Inv.list (I:Inv X pins σ H s) (h:SqL X.K H a xs):∃its:List af,jz xs its/\PlainL s.heap a its.toArray/\xs.length<=sizeLine:=by
 rcases h with h | ⟨o,its,n,hk,hc,hd,hs,hz,r⟩
 ·obtain ⟨z,its,n,r,e⟩:=h.ok I.hok
  exact ⟨its,r,⟨_,n,e,rfl,rfl,rfl⟩,z⟩
 ·refine ⟨its.toList,r,⟨o,n,I.kIn a o hk,hc,hd,by simpa using hs⟩,?_⟩
  have e:=r.length
  simp only [bV] at e
  omega
theorem Inv.tuple (I:Inv X pins σ H s) (h:SqT X.K H a xs):∃its:List af,jz xs its/\IsTup s.heap a its.toArray/\xs.length<=sizeLine:=by
 rcases h with h | ⟨o,its,n,hk,hc,hs,hz,r⟩
 ·obtain ⟨z,its,r,p⟩:=h.ok I.hok
  exact ⟨its,r,p,z⟩
 ·refine ⟨its.toList,r,⟨o,I.kIn a o hk,hc,n,by simpa using hs⟩,?_⟩
  have e:=r.length
  simp only [bV] at e
  omega
theorem Inv.list_inj (I:Inv X pins σ H s) (h:SqL X.K H a xs) (h':SqL X.K H a ys):xs=ys:=by
 obtain ⟨its,r,⟨o,n,e,_,_,d⟩,_⟩:=I.list h
 obtain ⟨its',r',⟨o',n',e',_,_,d'⟩,_⟩:=I.list h'
 rw [e] at e';cases e'
 rw [d] at d'
 injection d' with d1 _
 have:its=its':=by simpa using congrArg Array.toList d1
 subst this
 exact r.inj r'
theorem Inv.tuple_inj (I:Inv X pins σ H s) (h:SqT X.K H a xs) (h':SqT X.K H a ys):xs=ys:=by
 obtain ⟨its,r,⟨o,e,_,n,d⟩,_⟩:=I.tuple h
 obtain ⟨its',r',⟨o',e',_,n',d'⟩,_⟩:=I.tuple h'
 rw [e] at e';cases e'
 rw [d] at d'
 injection d' with d1 _
 have:its=its':=by simpa using congrArg Array.toList d1
 subst this
 exact r.inj r'
end
noncomputable abbrev Cx.wish (X:Cx) (E:af->Shared->Prop):Cx:={ X with xe:=E }
noncomputable abbrev Cx.nox (X:Cx):Cx:=X.wish λ_ _=>False
theorem Cx.Ok.wish {X:Cx}(ok:X.Ok) (E:af->Shared->Prop):(X.wish E).Ok :=
 ⟨ok.mod,ok.kind,ok.glob,ok.blt,ok.above,ok.inj,ok.has,ok.cab,ok.hd,ok.frames,ok.stk,ok.exf,ok.bs,ok.bsz,ok.noex,ok.exfs,ok.funs,ok.frf⟩
theorem Cx.Ok.unwish {X:Cx}{E:af->Shared->Prop}(ok:(X.wish E).Ok):X.Ok :=
 ⟨ok.mod,ok.kind,ok.glob,ok.blt,ok.above,ok.inj,ok.has,ok.cab,ok.hd,ok.frames,ok.stk,ok.exf,ok.bs,ok.bsz,ok.noex,ok.exfs,ok.funs,ok.frf⟩
section
variable {X:Cx}{pins:List (Addr×Obj)}{σ:St}{H:Hp}{s:Shared}{E:af->Shared->Prop}
theorem Inv.wish (I:Inv X pins σ H s) (E:af->Shared->Prop):Inv (X.wish E) pins σ H s:=⟨I.ok.wish E,I.os,I.bare,I.base,I.loc,I.cell,I.free,I.freeC,I.pin,I.hok,I.len⟩
theorem Inv.unwish (I:Inv (X.wish E) pins σ H s):Inv X pins σ H s:=⟨I.ok.unwish,I.os,I.bare,I.base,I.loc,I.cell,I.free,I.freeC,I.pin,I.hok,I.len⟩
theorem SP.unwish {D:Ends}{f:Flow}{s':Shared}(h:SP (X.wish E) pins D f s'):SP X pins D f s':=by
 cases f with
 | next=>obtain ⟨σ',H',I,q⟩:=h;exact ⟨σ',H',I.unwish,q⟩
 | brk=>obtain ⟨σ',H',I,q⟩:=h;exact ⟨σ',H',I.unwish,q⟩
 | cont=>obtain ⟨σ',H',I,q⟩:=h;exact ⟨σ',H',I.unwish,q⟩
 | ret u=>obtain ⟨v,σ',H',I,r,q⟩:=h;exact ⟨v,σ',H',I.unwish,r,q⟩
theorem PE.nox {e:Expr}{t:TE}(h:PE X.nox e t):PE X e t:=λpins s σ H Q I hw =>
 b7 (h pins s σ H Q (I.wish _) hw) (λ_ _ ⟨v,H',I',r,q⟩=>⟨v,H',I'.unwish,r,q⟩) λ_ _ z=>bA z
theorem PSs.nox {st:List Stmt}{t:TS}(h:PSs X.nox st t):PSs X st t:=λpins s σ H D I hw =>
 b7 (h pins s σ H D (I.wish _) hw) (λ_ _ q=>q.unwish) λ_ _ z=>bA z
end
section
variable {X:Cx}{st:Stmt}{yD:List Stmt}{t u:TS}{e:Expr}{te:TE}{pos:Pos}
noncomputable def Gq:TS:=λD σ H=>D.nx σ H
noncomputable def tSeq (t u:TS):TS:=λD σ H=>t { D with nx:=u D } σ H
theorem jw:PSs X [] Gq:=λ_ _ σ H _ I h=>ig ⟨σ,H,I,h⟩
theorem j4 (h1:PS X st t) (h2:PSs X yD u):PSs X (st::yD) (tSeq t u):=by
 intro pins s σ H D I h
 refine lE (thn (h1 pins s σ H { D with nx:=u D } I h) λf s1 q=>?_)
 cases f with
 | next =>
  obtain ⟨σ',H',I',q⟩:=q
  exact h2 pins s1 σ' H' D I' q
 | ret v=>exact q
 | brk=>exact q
 | cont=>exact q
theorem j9 (h1:PS X st t):PSs X [st] t:=by
 intro pins s σ H D I h
 refine lE (thn (h1 pins s σ H D I h) λf s1 q=>?_)
 cases f with
 | next=>exact ig q
 | ret v=>exact q
 | brk=>exact q
 | cont=>exact q
noncomputable def UQ:TS:=λD σ H=>D.bk σ H
theorem Yj:PS X (.Break pos) UQ:=λ_ _ σ H _ I h=>wpAny_Break ⟨σ,H,I,h⟩
theorem Inv.quiet {pins:List (Addr×Obj)}{σ:St}{H:Hp}{s:Shared}(I:Inv X pins σ H s):interactive X.env=false:=by simp [interactive,I.ok.kind]
noncomputable def WN (te:TE):TS:=λD σ H=>te σ H λ_ H1=>D.nx σ H1
theorem jY (he:PE X e te) (hs:iI e none pos.line X.env=pure false:=by rfl):PS X (.Expr e pos) (WN te):=by
 intro pins s σ H D I h
 exact wpAny_Expr_any (thn (he pins s σ H _ I h) λv s1 ⟨x,H1,I1,r1,q1⟩=>⟨σ,H1,I1,q1⟩) I.quiet hs
noncomputable def tRet (te:TE):TS:=λD σ H=>te σ H D.rt
theorem jm (he:PE X e te):PS X (.Return (some e) pos) (tRet te):=by
 intro pins s σ H D I h
 exact wpAny_Return_some (thn (he pins s σ H _ I h) λv s1 ⟨x,H1,I1,r1,q1⟩=>⟨x,σ,H1,I1,r1,q1⟩)
noncomputable def tIfS (c:TT) (t u:TS):TS:=λD σ H=>c σ H λb H1=>if b=true then t D σ H1 else u D σ H1
theorem qc {c:Expr}{a b:List Stmt}{tc:TT}(hc:PT X c tc) (ha:PSs X a t) (hb:PSs X b u):PS X (.If c a b pos) (tIfS tc t u):=by
 intro pins s σ H D I h
 refine wpAny_If (thn (hc pins s σ H _ I h) λd s1 ⟨H1,I1,q1⟩=>?_)
 cases d with
 | true=>exact ha pins s1 σ H1 D I1 q1
 | false=>exact hb pins s1 σ H1 D I1 q1
end
noncomputable abbrev TG:=V->St->Hp->(St->Hp->Prop)->Prop
noncomputable abbrev TGs:=List V->St->Hp->(St->Hp->Prop)->Prop
noncomputable def PG (X:Cx) (target:Expr) (t:TG):Prop :=
 ∀(pins:List (Addr×Obj)) (s:Shared) (σ:St) (H:Hp) (v:V) (u:af) (Q:St->Hp->Prop),Inv X pins σ H s->jA v u->t v σ H Q ->
  au (aC X.prog X.w) X.A (ij target X.env u) (λ_ s'=>∃σ' H',Inv X pins σ' H' s'/\Q σ' H') X.xe s
noncomputable def PGs (X:Cx) (ts:List Expr) (t:TGs):Prop :=
 ∀(pins:List (Addr×Obj)) (s:Shared) (σ:St) (H:Hp) (vs:List V) (us:List af) (Q:St->Hp->Prop),Inv X pins σ H s->jz vs us->t vs σ H Q ->
  au (aC X.prog X.w) X.A (assignInOrder ((ff ts X.env).map (·.2)) us) (λ_ s'=>∃σ' H',Inv X pins σ' H' s'/\Q σ' H') X.xe s
noncomputable abbrev Wl:=V->V->V->Hp->(Hp->Prop)->Prop
noncomputable def WJ (X:Cx) (t:Wl):Prop :=
 ∀(pins:List (Addr×Obj)) (s:Shared) (σ:St) (H:Hp) (o i v:V) (ov iv u:af) (Q:Hp->Prop),Inv X pins σ H s->jA o ov->jA i iv->jA v u->t o i v H Q ->
  au (aC X.prog X.w) X.A (setItem ov iv u) (λ_ s'=>∃H',Inv X pins σ H' s'/\Q H') X.xe s
noncomputable abbrev TIp:=V->V->Hp->VK->Prop
noncomputable def PIp (X:Cx) (op:sN) (t:TIp):Prop :=
 ∀(pins:List (Addr×Obj)) (s:Shared) (σ:St) (H:Hp) (x y:V) (v u:af) (Q:VK),Inv X pins σ H s->jA x v->jA y u->t x y H Q ->
  au (aC X.prog X.w) X.A (inplaceOp op v u) (EP X pins σ Q) X.xe s
section
variable {X:Cx}{pos:Pos}
noncomputable def vE (i:Nat):TG:=λv σ H Q=>Q (σ.set i (some v)) H
theorem jb {i:Nat}{x:Str}(hN:X.N.Nodup) (hi:X.N[i]? = some x) (hx:Loc X.env.scope x) (hf:X.fn x=true\/X.env.scope.names.lookup x=some .local:=by first | exact .inl rfl | exact .inr rfl | assumption):PG X (.Name x pos) (vE i):=by
 intro pins s σ H v u Q I r h
 exact nR (wL I hN hi hx r (λs' I'=>⟨_,H,I',h⟩) hf)
noncomputable def gNil:TGs:=λvs σ H Q=>vs=[]/\Q σ H
noncomputable def WT (t:TG) (u:TGs):TGs:=λvs σ H Q=>∃v r,vs=v::r/\t v σ H λσ' H'=>u r σ' H' Q
theorem qw:PGs X [] gNil:=by
 intro pins s σ H vs us Q I r h
 obtain ⟨e,h⟩:=h
 subst e
 cases r
 exact assignInOrder_nil ⟨σ,H,I,h⟩
theorem jo {e:Expr}{es:List Expr}{t:TG}{u:TGs}(h1:PG X e t) (h2:PGs X es u)
  (hs:(ff (e::es) X.env).map (·.2)=ij e X.env::(ff es X.env).map (·.2):=by rfl):PGs X (e::es) (WT t u):=by
 intro pins s σ H vs us Q I r h
 obtain ⟨v,vr,e1,h⟩:=h
 subst e1
 cases r with
 | cons r rr =>
  rw [hs]
  refine assignInOrder_cons (thn (h1 pins s σ H _ _ _ I r h) λ_ s1 ⟨σ1,H1,I1,q1⟩=>?_)
  exact h2 pins s1 σ1 H1 _ _ Q I1 rr q1
noncomputable def Gk (K:ag) (n:Nat) (t:TGs):TG:=λv σ H Q=>∃a xs,v = .ref a/\SqT K H a xs/\xs.length=n/\t xs σ H Q
theorem WE {es:List Expr}{k:Nat}{t:TGs}{n:Nat}(hc:X.calm=true) (h:PGs X es t)
  (hn:(ff es X.env).length=n:=by rfl) (hst:(ff es X.env).findIdx? (·.1)=none:=by rfl):PG X (.Tuple es k pos) (Gk X.K n t):=by
 intro pins s σ H v u Q I r hw
 obtain ⟨a,xs,e1,hq,hl,hw⟩:=hw
 subst e1
 cases r
 obtain ⟨its,rv,ht,hz⟩:=I.tuple hq
 refine assign_Tuple_tuple (I.ok.hd hc) ht (by simp [hn,<- hl,rv.length]) hst λh' hx=>?_
 have I1:Inv X pins σ H { s with heap:=h' }:=I.kept (t':=s.toks) λb o e=>hx b o (aB (ay e)) e
 exact h pins _ σ H xs _ Q I1 (by simpa using rv) hw
noncomputable def gSub (to ti:TE) (t:Wl):TG:=λv σ H Q=>to σ H λo H1=>ti σ H1 λi H2=>t o i v H2 λH3=>Q σ H3
theorem Jd {o i:Expr}{to ti:TE}{t:Wl}(ho:PE X o to) (hi:PE X i ti) (hs:WJ X t)
  (ha:∀v,ij (.Subscript o i pos) X.env v=(do
   let ov <- fe [v] (eval o X.env)
   let iv <- fe [v,ov] (eval i X.env)
   fD pos
   fe [v,ov,iv] (setItem ov iv v)
   release [v,ov,iv] []):=by intro _;rfl):PG X (.Subscript o i pos) (gSub to ti t):=by
 intro pins s σ H v u Q I r h
 rw [ha]
 refine aa (bN (thn (ho pins s σ H _ I h) λov s1 ⟨x,H1,I1,r1,q1⟩=>?_))
 refine aa (bN (thn (hi pins s1 σ H1 _ I1 q1) λiv s2 ⟨y,H2,I2,r2,q2⟩=>?_))
 refine aa (de (aa (bN (thn (hs pins s2 σ H2 x y v ov iv u _ I2 r1 r2 r q2) λ_ s3 ⟨H3,I3,q3⟩=>?_))))
 exact wpAny_release ⟨σ,H3,I3,q3⟩
noncomputable def VZ (te:TE) (g:TG):TS:=λD σ H=>te σ H λx H1=>g x σ H1 D.nx
theorem zh {tg e:Expr}{te:TE}{g:TG}(he:PE X e te) (hg:PG X tg g) (hs:swapsWithSole [tg] e pos.line X.env=pure false:=by rfl) (hw:swappedStores [tg] e X.env=pure none:=by rfl)
  (h1:(ff [tg] X.env).map (·.2)=[ij tg X.env]:=by rfl):PS X (.Assign [tg] e pos) (VZ te g):=by
 intro pins s σ H D I h
 refine wpAny_Assign_stores (thn (he pins s σ H _ I h) λv s1 ⟨x,H1,I1,r1,q1⟩=>?_) hs hw
 rw [h1]
 exact thn (hg pins s1 σ H1 x v _ I1 r1 q1) λ_ s2 q=>q
theorem yy {i:Nat}{x:Str}{e:Expr}{te:TE}{pos':Pos}(hN:X.N.Nodup) (hi:X.N[i]? = some x) (hx:Loc X.env.scope x) (he:PE X e te) (hs:iI e (some (.Name x pos')) pos.line X.env=pure false:=by rfl) (hf:X.fn x=true\/X.env.scope.names.lookup x=some .local:=by first | exact .inl rfl | exact .inr rfl | assumption) :
  PS X (.Assign [.Name x pos'] e pos) (VZ te (vE i)):=by
 intro pins s σ H D I h
 refine wpAny_Assign_Name (thn (he pins s σ H _ I h) λv s1 ⟨y,H1,I1,r1,q1⟩=>?_) hs
 exact wL I1 hN hi hx r1 (λs2 I2=>⟨_,H1,I2,q1⟩) hf
theorem jx (i:Nat){x:Str}{e:Expr}{te:TE}{pos':Pos}(hN:X.N.Nodup) (he:PE X e te) (hi:X.N[i]?=some x:=by rfl) (hx:Loc X.env.scope x:=by exact aP rfl) (hs:iI e (some (.Name x pos')) pos.line X.env=pure false:=by rfl) (hf:X.fn x=true\/X.env.scope.names.lookup x=some .local:=by first | exact .inl rfl | exact .inr rfl | assumption):PS X (.Assign [.Name x pos'] e pos) (VZ te (vE i)):=yy hN hi hx he hs hf
noncomputable def tAug (i:Nat) (te:TE) (ti:TIp):TS:=λD σ H=>∃x,σ[i]? = some (some x)/\te σ H λy H1=>ti x y H1 λz H2=>D.nx (σ.set i (some z)) H2
theorem QI {i:Nat}{x:Str}{e:Expr}{te:TE}{op:sN}{ti:TIp}{pos':Pos}(hN:X.N.Nodup) (hi:X.N[i]? = some x) (hx:Loc X.env.scope x) (he:PE X e te) (ho:PIp X op ti) (hf:X.fn x=true\/X.env.scope.names.lookup x=some .local:=by first | exact .inl rfl | exact .inr rfl | assumption) :
  PS X (.AugAssign (.Name x pos') op e pos) (tAug i te ti):=by
 intro pins s σ H D I h
 obtain ⟨v,e1,h⟩:=h
 obtain ⟨m,hn,hl⟩:=I.loc
 have vis:Vis X.env.scope x:=by rcases hx with k | k;exact .inl k;exact .inr (.inl k)
 obtain ⟨u,r,l⟩:=hl i x v hi e1 vis
 refine wpAny_AugAssign_Name ?_
 have go:au (aC X.prog X.w) X.A (eval e X.env) (λw s₂=>au (aC X.prog X.w) X.A (inplaceOp op u w) (λr s₃=>au (aC X.prog X.w) X.A (sv X.env x r) (λ_=>SP X pins D .next) X.xe s₃) X.xe s₂) X.xe s:=by
  refine thn (he pins s σ H _ I h) λw s1 ⟨y,H1,I1,r1,q1⟩=>?_
  refine thn (ho pins s1 σ H1 v y u w _ I1 r r1 q1) λz s2 ⟨zv,H2,I2,r2,q2⟩=>?_
  exact wL I2 hN hi hx r2 (λs3 I3=>⟨_,H2,I3,q2⟩) hf
 rcases l with ⟨hk,hm⟩ | ⟨hk,c,hc,hcell⟩
 ·exact my I.ok.kind hk hn hm go
 ·rcases hk with hk | hk
  ·exact mW I.ok.kind hk hc hcell go
  ·rcases hx with k | k
   ·have:X.env.scope.names.lookup x=some .free:=hk
    rw [k] at this;cases this
   ·have:X.env.scope.names.lookup x=some .free:=hk
    rw [k] at this;cases this
noncomputable def ipI (f:Int->Int->Int):TIp:=λx y H Q=>∃i j,x = .int i/\y = .int j/\Q (.int (f i j)) H
theorem Xk:PIp X .Add (ipI λi j=>i+j):=by
 intro pins s σ H x y v u Q I r1 r2 h
 obtain ⟨i,j,e1,e2,q⟩:=h
 subst e1;subst e2
 obtain ⟨t,rfl⟩:=r1
 obtain ⟨t',rfl⟩:=r2
 exact iadd_int ⟨.int _,H,I.tok _,⟨_,rfl⟩,q⟩
end
section
variable {X:Cx}{pos:Pos}
noncomputable def V1 (c:TT) (tb:TS):TS:=λD σ H=>∃W:Nat->St->Hp->Prop,(∃m,W m σ H)/\∀m σ H,W m σ H ->
 c σ H λb H1=>if b=true then ∃N:St->Hp->Prop,(∀σ' H',N σ' H'->∃m',m'<m/\W m' σ' H')/\tb { D with nx:=N,ct:=N,bk:=D.nx } σ H1 else D.nx σ H1
theorem Q7 {c:Expr}{body:List Stmt}{tc:TT}{tb:TS}(hp:PassesOwn (aC X.prog X.w) X.A X.env X.xe) (hc:PT X c tc) (hb:PSs X body tb):PS X (.While c body [] pos) (V1 tc tb):=by
 intro pins s σ H D I h
 obtain ⟨W,⟨m0,w0⟩,turn⟩:=h
 refine wpAny_While (codeAny_whileLoop (λn s'=>∃σ' H',Inv X pins σ' H' s'/\W n σ' H') ?_ m0 ⟨σ,H,I,w0⟩)
 rintro n s1 ⟨σ1,H1,I1,w1⟩
 refine dw hp (thn (hc pins s1 σ1 H1 _ I1 (turn n σ1 H1 w1)) λb s2 ⟨H2,I2,q2⟩=>?_)
 cases b with
 | true =>
  obtain ⟨N,hN,q2⟩:=q2
  rw [if_pos rfl]
  refine dw hp (thn (hb pins s2 σ1 H2 _ I2 q2) λf s3 q3=>?_)
  cases f with
  | next =>
   obtain ⟨σ3,H3,I3,n3⟩:=q3
   obtain ⟨m',hm,w3⟩:=hN σ3 H3 n3
   exact ⟨m',hm,σ3,H3,I3,w3⟩
  | cont =>
   obtain ⟨σ3,H3,I3,n3⟩:=q3
   obtain ⟨m',hm,w3⟩:=hN σ3 H3 n3
   exact ⟨m',hm,σ3,H3,I3,w3⟩
  | brk=>exact q3
  | ret v=>exact q3
 | false =>
  rw [if_neg ar]
  exact ig ⟨σ1,H2,I2,q2⟩
end
structure It where
 go:Nat->Hp->Prop
 yld:Nat->Hp->V->Hp->Prop
 stop:Nat->Hp->Prop
noncomputable def uy (X:Cx) (pins:List (Addr×Obj)) (H:Hp) (b:Addr):Prop :=
 H b=none/\b≠X.env.locals/\b∉X.fs/\(b∈X.ex\/X.s₀.heap.objs.size<=b)/\(∀x c,X.env.cells.lookup x=some c->c≠b)/\∀p∈X.pn++pins,p.1≠b
theorem Inv.fpOk {X:Cx}{pins:List (Addr×Obj)}{σ:St}{H H':Hp}{s:Shared}{b:Addr}(I:Inv X pins σ H s) (hb:s.heap.objs.size<=b) (hn:H' b=none):uy X pins H' b:=by
 refine ⟨hn,d0 (aN I.lt hb),I.nofs hb,.inr (aG I.sz hb),λx c e z=>?_,λp hp z=>?_⟩
 ·obtain ⟨v,q⟩:=I.cell x c e
  exact absurd (aN q.lt (by rw [z];exact hb)) (cu _)
 ·exact absurd (aN (ay (I.pin p hp).1) (by rw [z];exact hb)) (cu _)
structure Turn (P:Program) (w:aU) (K:ag) (tg:Expr) (J:It) (fp:List Addr) (it:Addr) (tn:Nat->Heap->Prop):Prop where
 mem:it∈fp
 obj:∀i h,tn i h->∀b∈fp,∃o,h.get? b=some o/\∀v,o.data≠.cell v
 keep:∀i h h',tn i h->(∀b∈fp,∀o,h.get? b=some o->h'.get? b=some o)->tn i h'
 item:∀(X:Cx),X.prog=P->X.w=w->X.K=K->X.calm=true->∀(i:Nat) (pins:List (Addr×Obj)) (s:Shared) (σ:St) (H:Hp) (E:af->Shared->Prop),Inv X pins σ H s->(∀b∈fp,uy X pins H b)->tn i s.heap->J.go i H ->
  au (aC P w) X.A (eU (.ref it)) (λr s1=>∃u,r=some u /\
   au (aC P w) X.A (cU tg (.ref it) u) (λ_ s2=>∃x H',Inv X pins σ H' s2/\jA x u/\J.yld i H x H'/\tn (i+1) s2.heap/\∀b∈fp,H' b=none) E s1) E s
 done:∀(X:Cx),X.prog=P->X.w=w->X.K=K->X.calm=true->∀(i:Nat) (pins:List (Addr×Obj)) (s:Shared) (σ:St) (H:Hp) (E:af->Shared->Prop),Inv X pins σ H s->(∀b∈fp,uy X pins H b)->tn i s.heap->J.stop i H ->
  au (aC P w) X.A (eU (.ref it)) (λr s1=>r=none/\Inv X pins σ H s1) E s
 self:∀(A:bb) (i:Nat) (s:Shared) (Q:af->Shared->Prop) (E:af->Shared->Prop),tn i s.heap->Q (.ref it) s->au (aC P w) A (lq (.ref it)) Q E s
noncomputable abbrev TI:=St->Hp->(It->Hp->Prop)->Prop
noncomputable def PIE (X:Cx) (pins:List (Addr×Obj)) (σ:St) (tg:Expr) (R:It->Hp->Prop) (itv:af) (s2:Shared):Prop :=
 ∃(it:Addr) (fp:List Addr) (tn:Nat->Heap->Prop) (J:It) (H':Hp),itv = .ref it/\Inv X pins σ H' s2/\Turn X.prog X.w X.K tg J fp it tn/\tn 0 s2.heap/\(∀b∈fp,uy X pins H' b)/\R J H'
noncomputable def PI (X:Cx) (tg iter:Expr) (wi:TI):Prop :=
 ∀(pins:List (Addr×Obj)) (s:Shared) (σ:St) (H:Hp) (R:It->Hp->Prop),Inv X pins σ H s->wi σ H R ->
  au (aC X.prog X.w) X.A (eval iter X.env) (λv s1=>au (aC X.prog X.w) X.A (lq v) (PIE X pins σ tg R) X.xe s1) X.xe s
theorem gp {M:t6}{A:bb}{E:af->Shared->Prop}{s:Shared}{tg:Expr}{it:Addr}{u:af}{o:Obj}{n:String}{vs:Array af}{Q:Unit->Shared->Prop}(ho:s.heap.get? it=some o) (hc:o.cls = .type n) (hd:o.data = .fields vs)
  (hn:["enumerate","zip","dict_itemiterator","dict_reverseitemiterator","odict_iterator","itertools.zip_longest","itertools.pairwise"].contains n=false) (hQ:Q () s):au M A (cU tg (.ref it) u) Q E s:=by
 unfold cU
 cases tg <;> first
  | exact wpAny_pure hQ
  | (cases u <;> first
    | exact wpAny_pure hQ
    | (refine aa (wpAny_load ho ?_)
       rw [hc,hd]
       show au M A (if (["enumerate","zip","dict_itemiterator","dict_reverseitemiterator","odict_iterator","itertools.zip_longest","itertools.pairwise"].contains n && vs[0]? == some (bJ _))=true then _ else _) Q E s
       rw [if_neg (by intro h;rw [hn,Bool.false_and] at h;cases h)]
       exact wpAny_pure hQ))
noncomputable def Itl (K:ag) (a:Addr):It :=
 ⟨λi H=>∃xs x,SqL K H a xs/\xs[i]? = some x,λi H x H'=>H'=H/\∀xs,SqL K H a xs->xs[i]? = some x,λi H=>∃xs,SqL K H a xs/\xs.length<=i⟩
noncomputable def Itt (K:ag) (a:Addr):It :=
 ⟨λi H=>∃xs x,SqT K H a xs/\xs[i]? = some x,λi H x H'=>H'=H/\∀xs,SqT K H a xs->xs[i]? = some x,λi H=>∃xs,SqT K H a xs/\xs.length<=i⟩
noncomputable def Itr (lo:Int) (n:Nat):It:=⟨λi _=>i<n,λi H x H'=>H'=H/\x = .int (lo+i),λi _=>n<=i⟩
theorem ZM {P:Program}{w:aU}{K:ag}{tg:Expr}(a it:Addr):Turn P w K tg (Itl K a) [it] it (λi h=>h.IsListIter it a i) where
 mem:=by simp
 obj:=λi h st b hb=>by
  have e:b=it:=by simpa using hb
  subst e
  obtain ⟨o,e,c,d⟩:=st
  exact ⟨o,e,λv z=>by rw [d] at z;cases z⟩
 keep:=λi h h' st k=>st.at λo e=>k it (by simp) o e
 item:=by
  intro X hP hw hK hc i pins s σ H E I hf st hg
  subst hP hw hK
  obtain ⟨xs,x,hq,hx⟩:=hg
  obtain ⟨its,rv,p,hz⟩:=I.list hq
  obtain ⟨u,hu,ru⟩:=rv.get hx
  obtain ⟨f0,f1,f2,f3,f4,f5⟩:=hf it (by simp)
  refine lQ st p.isList (x:=u) (by simpa using hu) λh' st' sb=>?_
  have I1:Inv X pins σ H { s with heap:=h' }:=I.turned (t':=s.toks) (λb o hb e=>(sb.2 b hb).trans e) f0 f1 f3 f4 f5
  obtain ⟨o,e,c,d⟩:=id st'
  exact ⟨u,rfl,gp (s:={ s with heap:=h' }) e c d ⋯ ⟨x,H,I1,ru,⟨rfl,λys hy=>by rw [I.list_inj hy hq];exact hx⟩,st',λb hb=>(hf b hb).1⟩⟩
 done:=by
  intro X hP hw hK hc i pins s σ H E I hf st hg
  subst hP hw hK
  obtain ⟨xs,hq,hx⟩:=hg
  obtain ⟨its,rv,p,hz⟩:=I.list hq
  obtain ⟨f0,f1,f2,f3,f4,f5⟩:=hf it (by simp)
  have hl:=rv.length
  exact ml (I.ok.hd hc) st p.isList (by simp;omega) λh' eb=>⟨rfl,I.turned (t':=s.toks) (λb o hb e=>eb b o hb e) f0 f1 f3 f4 f5⟩
 self:=λ_ _ _ _ _ st h=>wpAny_pyIter_listiter st h
theorem Xm {P:Program}{w:aU}{K:ag}{tg:Expr}(a it:Addr):Turn P w K tg (Itt K a) [it] it (λi h=>h.IsTupleIter it a i) where
 mem:=by simp
 obj:=λi h st b hb=>by
  have e:b=it:=by simpa using hb
  subst e
  obtain ⟨o,e,c,d⟩:=st
  exact ⟨o,e,λv z=>by rw [d] at z;cases z⟩
 keep:=λi h h' st k=>st.at λo e=>k it (by simp) o e
 item:=by
  intro X hP hw hK hc i pins s σ H E I hf st hg
  subst hP hw hK
  obtain ⟨xs,x,hq,hx⟩:=hg
  obtain ⟨its,rv,p,hz⟩:=I.tuple hq
  obtain ⟨u,hu,ru⟩:=rv.get hx
  obtain ⟨f0,f1,f2,f3,f4,f5⟩:=hf it (by simp)
  refine wpAny_pyNext_tuple_item st (show s.heap.IsTuple a its.toArray from p) (x:=u) (by simpa using hu) λh' st' sb=>?_
  have I1:Inv X pins σ H { s with heap:=h' }:=I.turned (t':=s.toks) (λb o hb e=>(sb.2 b hb).trans e) f0 f1 f3 f4 f5
  obtain ⟨o,e,c,d⟩:=id st'
  exact ⟨u,rfl,gp (s:={ s with heap:=h' }) e c d ⋯ ⟨x,H,I1,ru,⟨rfl,λys hy=>by rw [I.tuple_inj hy hq];exact hx⟩,st',λb hb=>(hf b hb).1⟩⟩
 done:=by
  intro X hP hw hK hc i pins s σ H E I hf st hg
  subst hP hw hK
  obtain ⟨xs,hq,hx⟩:=hg
  obtain ⟨its,rv,p,hz⟩:=I.tuple hq
  obtain ⟨f0,f1,f2,f3,f4,f5⟩:=hf it (by simp)
  have hl:=rv.length
  exact wpAny_pyNext_tuple_end (I.ok.hd hc) st (show s.heap.IsTuple a its.toArray from p) (by simp;omega) λh' eb=>⟨rfl,I.turned (t':=s.toks) (λb o hb e=>eb b o hb e) f0 f1 f3 f4 f5⟩
 self:=λ_ _ _ _ _ st h=>wpAny_pyIter_tupleiter st h
theorem k8 {P:Program}{w:aU}{K:ag}{tg:Expr}(it:Addr) (lo:Int) (n:Nat):Turn P w K tg (Itr lo n) [it] it (λi h=>pA h it (lo+(i:Nat)*1) ((n:Int)-(i:Nat)) 1) where
 mem:=by simp
 obj:=λi h st b hb=>by
  have e:b=it:=by simpa using hb
  subst e
  exact ⟨_,st,λv z=>by
   have z':mz _=lF v:=z
   cases z'⟩
 keep:=λi h h' st k=>k it (by simp) _ st
 item:=by
  intro X hP hw hK hc i pins s σ H E I hf st hg
  subst hP hw hK
  obtain ⟨f0,f1,f2,f3,f4,f5⟩:=hf it (by simp)
  have W:=Walks.range (prog:=X.prog) (w:=X.w) (I.ok.hd hc) it lo 1 n
  refine W.item i s _ _ hg st λv h' tk hv st' kk=>?_
  obtain ⟨t,rfl⟩:=hv
  have I1:Inv X pins σ H { s with heap:=h',toks:=tk }:=I.turned (λb o hb e=>kk b o (by simpa using hb) e) f0 f1 f3 f4 f5
  refine ⟨_,rfl,gp (s:={ s with heap:=h',toks:=tk }) (n:="range_iterator") st' rfl rfl ⋯ ⟨.int (lo+i),H,I1,⟨t,?_⟩,⟨rfl,rfl⟩,st',λb hb=>(hf b hb).1⟩⟩
  rw [Int.mul_one]
 done:=by
  intro X hP hw hK hc i pins s σ H E I hf st hg
  subst hP hw hK
  obtain ⟨f0,f1,f2,f3,f4,f5⟩:=hf it (by simp)
  exact wpAny_pyNext_range_end (I.ok.hd hc) st (by have:n<=i:=hg;omega) λh' eb=>⟨rfl,I.turned (t':=s.toks) (λb o hb e=>eb b o hb e) f0 f1 f3 f4 f5⟩
 self:=λ_ _ _ _ _ st h=>wpAny_pyIter_rangeiter st h
end L2
namespace L2
section
variable {X:Cx}{tg:Expr}
noncomputable def Uq (K:ag) (tl:TE):TI:=λσ H R=>tl σ H λx H1=>∃a,x = .ref a/\(∃xs,SqL K H1 a xs)/\R (Itl K a) H1
noncomputable def WK (K:ag) (tl:TE):TI:=λσ H R=>tl σ H λx H1=>∃a,x = .ref a/\(∃xs,SqT K H1 a xs)/\R (Itt K a) H1
theorem VU {l:Expr}{tl:TE}(hl:PE X l tl):PI X tg l (Uq X.K tl):=by
 intro pins s σ H R I h
 refine thn (hl pins s σ H _ I h) λv s1 ⟨x,H1,I1,r1,q1⟩=>?_
 obtain ⟨a,e,⟨xs,hq⟩,q⟩:=q1
 subst e
 cases r1
 obtain ⟨its,rv,p,hz⟩:=I1.list hq
 refine eI p.isList ?_
 refine ⟨s1.heap.objs.size,[s1.heap.objs.size],_,_,H1,rfl,I1.kept (t':=s1.toks) λb o e=>ai _ e,ZM a _,⟨_,az _ rfl,rfl,rfl⟩,λb hb=>?_,q⟩
 have e:b=s1.heap.objs.size:=by simpa using hb
 subst e
 exact I1.fpOk (ao _) (I1.hok.fresh (ao _))
theorem UN {l:Expr}{tl:TE}(hl:PE X l tl):PI X tg l (WK X.K tl):=by
 intro pins s σ H R I h
 refine thn (hl pins s σ H _ I h) λv s1 ⟨x,H1,I1,r1,q1⟩=>?_
 obtain ⟨a,e,⟨xs,hq⟩,q⟩:=q1
 subst e
 cases r1
 obtain ⟨its,rv,p,hz⟩:=I1.tuple hq
 refine nj (show s1.heap.IsTuple a its.toArray from p) ?_
 refine ⟨s1.heap.objs.size,[s1.heap.objs.size],_,_,H1,rfl,I1.kept (t':=s1.toks) λb o e=>ai _ e,Xm a _,⟨_,az _ rfl,rfl,rfl⟩,λb hb=>?_,q⟩
 have e:b=s1.heap.objs.size:=by simpa using hb
 subst e
 exact I1.fpOk (ao _) (I1.hok.fresh (ao _))
theorem Qd {pins:List (Addr×Obj)}{σ:St}{H:Hp}{s:Shared}{R:It->Hp->Prop}{E:af->Shared->Prop}{lo hi:Int}{t u v:Tok}{tk:Nat}(I:Inv X pins σ H s) (h1 : -(2 ^ 62)<=lo) (h2:lo<2 ^ 62) (h3 : -(2 ^ 62)<=hi) (h4:hi<2 ^ 62)
  (q:R (Itr lo (hi-lo).toNat) H):au (aC X.prog X.w) X.A (lq (.ref s.heap.objs.size)) (PIE X pins σ tg R) E { s with heap:=s.heap.push { cls:=.type "range",data:=.fields #[.int lo t,.int hi u,.int 1 v] },toks:=tk }:=by
 refine nk (pC ..) (small_one h1 h2 h3 h4) ?_
 have I1:Inv X pins σ H { s with heap:=s.heap.push { cls:=.type "range",data:=.fields #[.int lo t,.int hi u,.int 1 v] },toks:=tk }:=I.kept λb o e=>ai _ e
 refine ⟨(s.heap.push { cls:=.type "range",data:=.fields #[.int lo t,.int hi u,.int 1 v] }).objs.size,[(s.heap.push { cls:=.type "range",data:=.fields #[.int lo t,.int hi u,.int 1 v] }).objs.size],_,_,H,rfl,
  I1.kept (t':=tk) λb o e=>ai _ e,k8 _ lo (hi-lo).toNat,?_,λb hb=>?_,q⟩
 ·have e1:lo+((0:Nat):Int)*1=lo:=by simp
  have e2:(((hi-lo).toNat:Nat):Int)-((0:Nat):Int)=lH lo hi 1:=by rw [rZ];split <;> omega
  show pA _ _ (lo+((0:Nat):Int)*1) ((((hi-lo).toNat:Nat):Int)-((0:Nat):Int)) 1
  rw [e1,e2]
  exact az _ rfl
 ·have e:b=(s.heap.push { cls:=.type "range",data:=.fields #[.int lo t,.int hi u,.int 1 v] }).objs.size:=by simpa using hb
  subst e
  exact I1.fpOk (ao _) (I1.hok.fresh (ao _))
noncomputable def Gz (ta:TA):TI:=λσ H R=>ta σ H λvs H1=>∃j:Int,vs=[.int j] /\ -(2 ^ 62)<=j/\j<2 ^ 62/\R (Itr 0 j.toNat) H1
noncomputable def WQ (ta:TA):TI:=λσ H R=>ta σ H λvs H1=>∃i j:Int,vs=[.int i,.int j]/\(-(2 ^ 62)<=i/\i<2 ^ 62 /\ -(2 ^ 62)<=j/\j<2 ^ 62)/\R (Itr i (j-i).toNat) H1
theorem qd {a:Expr}{ta:TA}{p pos:Pos}(hg:Gl X "range") (hm:X.mg "range" = none) (ha:PA X [a] ta) (hs:aK [a] X.env=[(false,eval a X.env)]:=by rfl):PI X tg (.Call (.Name "range" p) [a] [] pos) (Gz ta):=by
 intro pins s σ H R I h
 refine t7 (y7 I hg hm rn (bZ (thn (ha pos pins s σ H _ I h) λus s1 ⟨vs,H1,I1,r1,q1⟩=>?_) hs rfl))
 obtain ⟨j,e,q1,q2,q⟩:=q1
 subst e
 cases r1 with
 | cons r rr =>
  cases rr
  obtain ⟨t,rfl⟩:=r
  exact call_range_1 (Qd I1 ∅ ∅ q1 q2 (by simpa using q))
theorem ZR {a b:Expr}{ta:TA}{p pos:Pos}(hg:Gl X "range") (hm:X.mg "range" = none) (ha:PA X [a,b] ta) (hs:aK [a,b] X.env=[(false,eval a X.env),(false,eval b X.env)]:=by rfl) (hs2:aK [b] X.env=[(false,eval b X.env)]:=by rfl) :
  PI X tg (.Call (.Name "range" p) [a,b] [] pos) (WQ ta):=by
 intro pins s σ H R I h
 refine t7 (y7 I hg hm rn (bZ (thn (ha pos pins s σ H _ I h) λus s1 ⟨vs,H1,I1,r1,q1⟩=>?_) (by rw [hs,hs2]) (by rw [hs2];rfl)))
 obtain ⟨i,j,e,⟨q1,q2,q3,q4⟩,q⟩:=q1
 subst e
 cases r1 with
 | cons r rr =>
  cases rr with
  | cons r' rr =>
   cases rr
   obtain ⟨t,rfl⟩:=r
   obtain ⟨t',rfl⟩:=r'
   exact call_range_2 (Qd I1 q1 q2 q3 q4 q)
noncomputable def tFor (wi:TI) (g:TG) (tb:TS):TS:=λD σ H=>wi σ H λJ H1=>∃W:Nat->Nat->St->Hp->Prop,(∃m,W 0 m σ H1)/\∀i m σ H,W i m σ H ->
 (J.stop i H/\D.nx σ H)\/(J.go i H/\∃N:St->Hp->Prop,(∀σ' H',N σ' H'->∃m',m'<m/\W (i+1) m' σ' H')/\∀x H',J.yld i H x H'->g x σ H' λσ2 H2=>tb { D with nx:=N,ct:=N,bk:=D.nx } σ2 H2)
noncomputable def zd (fp:List Addr) (h:Heap):List (Addr×Obj):=fp.filterMap λb=>(h.get? b).map λo=>(b,o)
theorem qT {fp:List Addr}{h:Heap}{b:Addr}{o:Obj}(hb:b∈fp) (e:h.get? b=some o):(b,o)∈zd fp h:=List.mem_filterMap.mpr ⟨b,hb,by rw [e];rfl⟩
theorem ZF {fp:List Addr}{h:Heap}{p:Addr×Obj}(hp:p∈zd fp h):p.1∈fp/\h.get? p.1=some p.2:=by
 obtain ⟨b,hb,e⟩:=List.mem_filterMap.mp hp
 cases q:h.get? b with
 | none=>rw [q] at e;cases e
 | some o =>
  rw [q] at e
  have e':(b,o)=p:=aO e
  subst e'
  exact ⟨hb,q⟩
theorem Inv.pinned {pins:List (Addr×Obj)}{σ:St}{H:Hp}{s:Shared}{fp:List Addr}(I:Inv X pins σ H s) (hf:∀b∈fp,uy X pins H b) (ho:∀b∈fp,∃o,s.heap.get? b=some o/\∀v,o.data≠.cell v):Inv X (pins++zd fp s.heap) σ H s :=
 I.pins_of λp hp=>(List.mem_append.mp hp).elim (λz=>I.pin p (aI _ z)) λz=>by
  obtain ⟨hb,e⟩:=ZF z
  obtain ⟨f0,f1,f2,_⟩:=hf p.1 hb
  obtain ⟨o,e',d⟩:=ho p.1 hb
  rw [e] at e';cases e'
  exact ⟨e,f0,f1,f2,d⟩
theorem Inv.unpinned {pins pl:List (Addr×Obj)}{σ:St}{H:Hp}{s:Shared}(I:Inv X (pins++pl) σ H s):Inv X pins σ H s:=I.pins_of λp hp=>I.pin p (aI _ (i9 _ hp))
theorem qv {iter:Expr}{body:List Stmt}{wi:TI}{g:TG}{tb:TS}{pos:Pos}(hp:PassesOwn (aC X.prog X.w) X.A X.env X.xe) (hc:X.calm=true) (hi:PI X tg iter wi) (hg:PG X tg g) (hb:PSs X body tb)
  (hs:∀x,cx iter X.env x=pure x:=by intro _;rfl):PS X (.For tg iter body [] pos) (tFor wi g tb):=by
 intro pins s σ H D I h
 refine wpAny_For (thn (hi pins s σ H _ I h) λv s1 h1=>thn h1 λitv s2 h2=>?_) hs
 obtain ⟨it,fp,tn,J,H2,e,I2,T,st2,f2,W,⟨m0,w0⟩,turn⟩:=h2
 subst e
 have stat:∀{H':Hp},(∀b∈fp,H' b=none)->∀b∈fp,uy X pins H' b:=λhn b hb=>⟨hn b hb,(f2 b hb).2⟩
 refine codeAny_forLoop_any (λn s'=>∃i σ' H',Inv X pins σ' H' s'/\tn i s'.heap/\(∀b∈fp,H' b=none)/\W i n σ' H') ?_ m0 ⟨0,σ,H2,I2,st2,λb hb=>(f2 b hb).1,w0⟩
 rintro n s3 ⟨i,σ3,H3,I3,st3,fr3,w3⟩
 rcases turn i n σ3 H3 w3 with ⟨stop,qn⟩ | ⟨go,N,hN,step⟩
 ·refine dw hp (thn (T.done X rfl rfl rfl hc i pins s3 σ3 H3 X.xe I3 (stat fr3) st3 stop) λr s4 ⟨hr,I4⟩=>?_)
  subst hr
  exact ig ⟨σ3,H3,I4,qn⟩
 ·refine dw hp (thn (T.item X rfl rfl rfl hc i pins s3 σ3 H3 X.xe I3 (stat fr3) st3 go) λr s4 ⟨u,hr,h4⟩=>?_)
  subst hr
  refine dw hp (thn h4 λ_ s5 ⟨x,H5,I5,r5,y5,st5,fr5⟩=>?_)
  have I5':=I5.pinned (stat fr5) (T.obj _ _ st5)
  refine dw hp (thn (hg _ s5 σ3 H5 x u _ I5' r5 (step x H5 y5)) λ_ s6 ⟨σ6,H6,I6,q6⟩=>?_)
  refine dw hp (thn (hb _ s6 σ6 H6 _ I6 q6) λf s7 q7=>?_)
  have again:∀{σ7:St} {H7:Hp},Inv X (pins++zd fp s5.heap) σ7 H7 s7->N σ7 H7->∃m,m<n/\∃i σ' H',Inv X pins σ' H' s7/\tn i s7.heap/\(∀b∈fp,H' b=none)/\W i m σ' H':=λ{σ7 H7} I7 n7=>by
   obtain ⟨m',hm,w7⟩:=hN σ7 H7 n7
   refine ⟨m',hm,i+1,σ7,H7,I7.unpinned,T.keep _ _ _ st5 λb hb o e=>(I7.pin (b,o) (aI _ (aI _ (qT hb e)))).1,λb hb=>?_,w7⟩
   obtain ⟨o,e,d⟩:=T.obj _ _ st5 b hb
   exact (I7.pin (b,o) (aI _ (aI _ (qT hb e)))).2.1
  cases f with
  | next=>obtain ⟨σ7,H7,I7,n7⟩:=q7;exact again I7 n7
  | cont=>obtain ⟨σ7,H7,I7,n7⟩:=q7;exact again I7 n7
  | brk=>obtain ⟨σ7,H7,I7,q7⟩:=q7;exact ⟨σ7,H7,I7.unpinned,q7⟩
  | ret v=>obtain ⟨x7,σ7,H7,I7,r7,q7⟩:=q7;exact ⟨x7,σ7,H7,I7.unpinned,r7,q7⟩
end
theorem zL {K:ag}{a:Addr}{xs:List V}{g:TG}{tb:TS}{D:Ends}{σ:St}{H:Hp}(Pv:Nat->St->Hp->Prop) (h0:Pv 0 σ H) (hl:∀i σ H,i<=xs.length->Pv i σ H->SqL K H a xs)
  (hs:∀i x σ H,xs[i]? = some x->Pv i σ H->g x σ H λσ2 H2=>tb { D with nx:=Pv (i+1),ct:=Pv (i+1),bk:=D.nx } σ2 H2) (hd:∀σ H,Pv xs.length σ H->D.nx σ H) :
  ∃W:Nat->Nat->St->Hp->Prop,(∃m,W 0 m σ H)/\∀i m σ H,W i m σ H ->
   ((Itl K a).stop i H/\D.nx σ H)\/((Itl K a).go i H/\∃N:St->Hp->Prop,(∀σ' H',N σ' H'->∃m',m'<m/\W (i+1) m' σ' H')/\∀x H',(Itl K a).yld i H x H'->g x σ H' λσ2 H2=>tb { D with nx:=N,ct:=N,bk:=D.nx } σ2 H2):=by
 refine ⟨λi m σ H=>m=xs.length-i/\i<=xs.length/\Pv i σ H,⟨xs.length,by simp,aE _,h0⟩,?_⟩
 rintro i m σ H ⟨rfl,hi,p⟩
 have q:=hl i σ H hi p
 by_cases hlt:i<xs.length
 ·refine .inr ⟨⟨xs,xs[i],q,by simp [hlt]⟩,Pv (i+1),λσ' H' p'=>⟨xs.length-(i+1),∅,rfl,hlt,p'⟩,λx H' y=>?_⟩
  obtain ⟨e,y⟩:=y
  subst e
  exact hs i x σ _ (y xs q) p
 ·have e:i=xs.length:=∅
  subst e
  exact .inl ⟨⟨xs,q,ao _⟩,hd σ H p⟩
theorem Uj {K:ag}{a:Addr}{xs:List V}{g:TG}{tb:TS}{D:Ends}{σ:St}{H:Hp}(Pv:Nat->St->Hp->Prop) (h0:Pv 0 σ H) (hl:∀i σ H,i<=xs.length->Pv i σ H->SqT K H a xs)
  (hs:∀i x σ H,xs[i]? = some x->Pv i σ H->g x σ H λσ2 H2=>tb { D with nx:=Pv (i+1),ct:=Pv (i+1),bk:=D.nx } σ2 H2) (hd:∀σ H,Pv xs.length σ H->D.nx σ H) :
  ∃W:Nat->Nat->St->Hp->Prop,(∃m,W 0 m σ H)/\∀i m σ H,W i m σ H ->
   ((Itt K a).stop i H/\D.nx σ H)\/((Itt K a).go i H/\∃N:St->Hp->Prop,(∀σ' H',N σ' H'->∃m',m'<m/\W (i+1) m' σ' H')/\∀x H',(Itt K a).yld i H x H'->g x σ H' λσ2 H2=>tb { D with nx:=N,ct:=N,bk:=D.nx } σ2 H2):=by
 refine ⟨λi m σ H=>m=xs.length-i/\i<=xs.length/\Pv i σ H,⟨xs.length,by simp,aE _,h0⟩,?_⟩
 rintro i m σ H ⟨rfl,hi,p⟩
 have q:=hl i σ H hi p
 by_cases hlt:i<xs.length
 ·refine .inr ⟨⟨xs,xs[i],q,by simp [hlt]⟩,Pv (i+1),λσ' H' p'=>⟨xs.length-(i+1),∅,rfl,hlt,p'⟩,λx H' y=>?_⟩
  obtain ⟨e,y⟩:=y
  subst e
  exact hs i x σ _ (y xs q) p
 ·have e:i=xs.length:=∅
  subst e
  exact .inl ⟨⟨xs,q,ao _⟩,hd σ H p⟩
theorem qU {lo:Int}{n:Nat}{g:TG}{tb:TS}{D:Ends}{σ:St}{H:Hp}(Pv:Nat->St->Hp->Prop) (h0:Pv 0 σ H)
  (hs:∀i σ H,i<n->Pv i σ H->g (.int (lo+i)) σ H λσ2 H2=>tb { D with nx:=Pv (i+1),ct:=Pv (i+1),bk:=D.nx } σ2 H2) (hd:∀σ H,Pv n σ H->D.nx σ H) :
  ∃W:Nat->Nat->St->Hp->Prop,(∃m,W 0 m σ H)/\∀i m σ H,W i m σ H ->
   ((Itr lo n).stop i H/\D.nx σ H)\/((Itr lo n).go i H/\∃N:St->Hp->Prop,(∀σ' H',N σ' H'->∃m',m'<m/\W (i+1) m' σ' H')/\∀x H',(Itr lo n).yld i H x H'->g x σ H' λσ2 H2=>tb { D with nx:=N,ct:=N,bk:=D.nx } σ2 H2):=by
 refine ⟨λi m σ H=>m=n-i/\i<=n/\Pv i σ H,⟨n,by simp,aE _,h0⟩,?_⟩
 rintro i m σ H ⟨rfl,hi,p⟩
 by_cases hlt:i<n
 ·refine .inr ⟨hlt,Pv (i+1),λσ' H' p'=>⟨n-(i+1),∅,rfl,hlt,p'⟩,λx H' y=>?_⟩
  obtain ⟨e,y⟩:=y
  subst e y
  exact hs i σ _ hlt p
 ·have e:i=n:=∅
  subst e
  exact .inl ⟨ao _,hd σ H p⟩
theorem JD {c:TT}{tb:TS}{D:Ends}{σ:St}{H:Hp}(Pv:St->Hp->Prop) (μ:St->Hp->Nat) (h0:Pv σ H)
  (hs:∀σ H,Pv σ H->c σ H λb H1=>if b=true then tb { D with nx:=λσ' H'=>Pv σ' H'/\μ σ' H'<μ σ H,ct:=λσ' H'=>Pv σ' H'/\μ σ' H'<μ σ H,bk:=D.nx } σ H1 else D.nx σ H1)
  (mono:∀σ H Q Q',(∀b H1,Q b H1->Q' b H1)->c σ H Q->c σ H Q'):V1 c tb D σ H:=by
 refine ⟨λm σ H=>m=μ σ H/\Pv σ H,⟨_,rfl,h0⟩,?_⟩
 rintro m σ H ⟨rfl,p⟩
 refine mono σ H _ _ (λb H1 q=>?_) (hs σ H p)
 cases b with
 | true=>exact ⟨_,λσ' H' ⟨p',l⟩=>⟨_,l,rfl,p'⟩,q⟩
 | false=>exact q
end L2
namespace L2
noncomputable abbrev R2:=V->V->Hp->VK->Prop
noncomputable def OpR (X:Cx) (f:af->af->Sem af) (r:R2):Prop :=
 ∀(pins:List (Addr×Obj)) (s:Shared) (σ:St) (H:Hp) (x y:V) (v u:af) (Q:VK),Inv X pins σ H s->jA x v->jA y u->r x y H Q ->
  au (aC X.prog X.w) X.A (f v u) (EP X pins σ Q) X.xe s
noncomputable def UnR (X:Cx) (f:af->Sem af) (r:V->Hp->VK->Prop):Prop :=
 ∀(pins:List (Addr×Obj)) (s:Shared) (σ:St) (H:Hp) (x:V) (v:af) (Q:VK),Inv X pins σ H s->jA x v->r x H Q ->
  au (aC X.prog X.w) X.A (f v) (EP X pins σ Q) X.xe s
noncomputable def xb (X:Cx) (f:af) (r:List V->Hp->VK->Prop):Prop :=
 ∀(pins:List (Addr×Obj)) (s:Shared) (σ:St) (H:Hp) (xs:List V) (us:List af) (Q:VK),Inv X pins σ H s->jz xs us->r xs H Q ->
  au (aC X.prog X.w) X.A (call f us) (EP X pins σ Q) X.xe s
noncomputable def tOp (r:R2) (ta tb:TE):TE:=λσ H Q=>ta σ H λx H1=>tb σ H1 λy H2=>r x y H2 Q
noncomputable def tUn (r:V->Hp->VK->Prop) (ta:TE):TE:=λσ H Q=>ta σ H λx H1=>r x H1 Q
noncomputable def rI (C:Int->Int->Prop) (g:Int->Int->V):R2:=λx y H Q=>∃i j,x = .int i/\y = .int j/\C i j/\Q (g i j) H
noncomputable def rI0 (g:Int->Int->V):R2:=λx y H Q=>∃i j,x = .int i/\y = .int j/\Q (g i j) H
noncomputable def rU (g:Int->V):V->Hp->VK->Prop:=λx H Q=>∃i,x = .int i/\Q (g i) H
section
variable {X:Cx}{a b c:Expr}{ta tb tc:TE}{pos:Pos}
theorem UE (ha:PE X a ta) (hb:PE X b tb) {pins:List (Addr×Obj)}{s:Shared}{σ:St}{H:Hp}{R:V->V->Hp->Prop}(I:Inv X pins σ H s)
  (h:ta σ H λx H1=>tb σ H1 λy H2=>R x y H2) {Q:af->Shared->Prop} {f:af->af->Sem af}
  (hf:∀v u s2 x y H2,Inv X pins σ H2 s2->jA x v->jA y u->R x y H2->au (aC X.prog X.w) X.A (f v u) Q X.xe s2) :
  au (aC X.prog X.w) X.A (eval a X.env) (λv s₁=>au (aC X.prog X.w) X.A (eval b X.env) (λu s₂=>au (aC X.prog X.w) X.A (f v u) Q X.xe s₂) X.xe s₁) X.xe s:=by
 refine thn (ha pins s σ H _ I h) λv s1 ⟨x,H1,I1,r1,q1⟩=>?_
 refine thn (hb pins s1 σ H1 _ I1 q1) λu s2 ⟨y,H2,I2,r2,q2⟩=>?_
 exact hf v u s2 x y H2 I2 r1 r2 q2
theorem jr {op:sN}{r:R2}(ho:OpR X (ia op) r) (ha:PE X a ta) (hb:PE X b tb):PE X (.BinOp a op b pos) (tOp r ta tb):=by
 intro pins s σ H Q I h
 exact wpAny_BinOp (UE ha hb I h λv u s2 x y H2 I2 rx ry q=>ho pins s2 σ H2 x y v u Q I2 rx ry q)
theorem wm {op:UnaryOp}{r:V->Hp->VK->Prop}(ho:UnR X (unaryOp op) r) (ha:PE X a ta):PE X (.UnaryOp op a pos) (tUn r ta):=by
 intro pins s σ H Q I h
 exact UnaryOp_ (thn (ha pins s σ H _ I h) λv s1 ⟨x,H1,I1,r1,q1⟩=>ho pins s1 σ H1 x v Q I1 r1 q1)
theorem opI {f:af->af->Sem af}{C:Int->Int->Prop}{g:Int->Int->Int}
  (rule:∀(i j:Int) (t u:Tok) (s:Shared) (Q:af->Shared->Prop) (E:af->Shared->Prop),C i j->Q (.int (g i j) s.toks) { s with toks:=s.toks+1 }->au (aC X.prog X.w) X.A (f (.int i t) (.int j u)) Q E s) :
  OpR X f (rI C λi j=>.int (g i j)):=by
 intro pins s σ H x y v u Q I rx ry h
 obtain ⟨i,j,rfl,rfl,hc,q⟩:=h
 obtain ⟨t,rfl⟩:=rx
 obtain ⟨t',rfl⟩:=ry
 exact rule i j t t' s _ _ hc ⟨.int (g i j),H,I.tok _,⟨_,rfl⟩,q⟩
theorem Gm {f:af->af->Sem af}{g:Int->Int->Int}
  (rule:∀(i j:Int) (t u:Tok) (s:Shared) (Q:af->Shared->Prop) (E:af->Shared->Prop),Q (.int (g i j) s.toks) { s with toks:=s.toks+1 }->au (aC X.prog X.w) X.A (f (.int i t) (.int j u)) Q E s) :
  OpR X f (rI0 λi j=>.int (g i j)):=by
 intro pins s σ H x y v u Q I rx ry h
 obtain ⟨i,j,rfl,rfl,q⟩:=h
 obtain ⟨t,rfl⟩:=rx
 obtain ⟨t',rfl⟩:=ry
 exact rule i j t t' s _ _ ⟨.int (g i j),H,I.tok _,⟨_,rfl⟩,q⟩
theorem Uk {f:af->af->Sem af}{g:Int->Int->Bool}
  (rule:∀(i j:Int) (t u:Tok) (s:Shared) (Q:af->Shared->Prop) (E:af->Shared->Prop),Q (.bool (g i j)) s->au (aC X.prog X.w) X.A (f (.int i t) (.int j u)) Q E s) :
  OpR X f (rI0 λi j=>.bl (g i j)):=by
 intro pins s σ H x y v u Q I rx ry h
 obtain ⟨i,j,rfl,rfl,q⟩:=h
 obtain ⟨t,rfl⟩:=rx
 obtain ⟨t',rfl⟩:=ry
 exact rule i j t t' s _ _ ⟨.bl (g i j),H,I,rfl,q⟩
noncomputable def Gx (i j:Int):Prop:=0<=j/\j<=1000000/\i.natAbs<2 ^ 64
noncomputable def Yp (i j:Int):Prop:=(-(2 ^ 64)<i/\i<2 ^ 64)\/(-(2 ^ 64)<j/\j<2 ^ 64)
theorem Yp.ok {i j:Int}(h:Yp i j):IntMulOk i j:=by
 rcases h with ⟨h1,h2⟩ | ⟨h1,h2⟩
 ·exact .of_left (se h1 h2)
 ·exact .of_right (se h1 h2)
theorem jN:OpR X (ia .Add) (rI0 λi j=>.int (i+j)):=Gm λ_ _ _ _ _ _ _ q=>add_int q
theorem qI:OpR X (ia .Sub) (rI0 λi j=>.int (i-j)):=Gm λ_ _ _ _ _ _ _ q=>sub_int q
theorem ul:OpR X (ia .Mult) (rI Yp λi j=>.int (i*j)):=opI λ_ _ _ _ _ _ _ hc q=>mul_int q hc.ok
theorem xV:OpR X (ia .Mod) (rI (λ_ j=>0<j) λi j=>.int (i % j)):=opI λi j _ _ _ _ _ hc q=>by
 have h1:(0:Int)<j:=hc
 exact mod_int' ∅ (by rw [Int.fmod_eq_emod_of_nonneg i ∅];exact q)
theorem WF:OpR X (ia .Pow) (rI Gx λi j=>.int (i ^ j.toNat)):=opI λ_ _ _ _ _ _ _ hc q=>pow_int_small hc.1 hc.2.1 hc.2.2 q
theorem unI {f:af->Sem af}{g:Int->Int}
  (rule:∀(i:Int) (t:Tok) (s:Shared) (Q:af->Shared->Prop) (E:af->Shared->Prop),Q (.int (g i) s.toks) { s with toks:=s.toks+1 }->au (aC X.prog X.w) X.A (f (.int i t)) Q E s) :
  UnR X f (rU λi=>.int (g i)):=by
 intro pins s σ H x v Q I rx h
 obtain ⟨i,rfl,q⟩:=h
 obtain ⟨t,rfl⟩:=rx
 exact rule i t s _ _ ⟨.int (g i),H,I.tok _,⟨_,rfl⟩,q⟩
theorem ve:UnR X (unaryOp .USub) (rU λi=>.int (-i)):=unI λ_ _ _ _ _ q=>neg_int q
end
noncomputable def WP:V->V->Bool
 | .non,.non=>true | .non,.int _=>true | .int _,.non=>true | .non,.bl _=>true | .bl _,.non=>true | .non,.str _=>true | .str _,.non=>true
 | .int _,.int _=>true | .bl _,.bl _=>true | .str _,.str _=>true | .byt _,.byt _=>true
 | .int _,.str _=>true | .str _,.int _=>true | .bl _,.str _=>true | .str _,.bl _=>true
 | _,_=>false
noncomputable def rEq:R2:=λx y H Q=>WP x y=true/\Q (.bl (decide (x=y))) H
noncomputable def rNe:R2:=λx y H Q=>WP x y=true/\Q (.bl (!decide (x=y))) H
theorem Z2 {i j:Int}:decide (V.int i=V.int j)=(i == j):=by
 rw [dZ]
 simp
theorem V7 {i j:Bool}:decide (V.bl i=V.bl j)=(i == j):=by
 rw [dZ]
 simp
theorem XY {i j:Str}:decide (V.str i=V.str j)=(i == j):=by
 rw [dZ]
 simp
theorem XI {i j:Array UInt8}:decide (V.byt i=V.byt j)=(i.toList == j.toList):=by
 rw [dZ]
 cases i
 cases j
 simp
section
variable {X:Cx}{a b c:Expr}{ta tb tc:TE}{pos:Pos}
theorem jJ {pins:List (Addr×Obj)}{σ:St}{H:Hp}{s:Shared}{Q:VK}{k k':Bool}(I:Inv X pins σ H s) (q:Q (.bl k) H) (e:k=k'):EP X pins σ Q (.bool k') s:=by
 subst e
 exact ⟨.bl k,H,I,rfl,q⟩
theorem uF:OpR X (c5 .Eq) rEq:=by
 intro pins s σ H x y v u Q I rx ry h
 obtain ⟨hs,q⟩:=h
 cases x with
 | non =>
  cases rx
  cases y with
  | non=>cases ry;exact PySem.EqNone.eq_none_none (jJ I q (by simp))
  | bl j=>cases ry;exact PySem.EqNone.eq_none_bool (jJ I q (by simp))
  | int j=>obtain ⟨t',rfl⟩:=ry;exact PySem.EqNone.eq_none_int (jJ I q (by simp))
  | str j=>obtain ⟨t',rfl⟩:=ry;exact PySem.EqNone.eq_none_str (jJ I q (by simp))
  | _=>exact absurd (show false=true from hs) ar
 | bl i =>
  cases rx
  cases y with
  | non=>cases ry;exact PySem.EqNone.eq_bool_none (jJ I q (by simp))
  | bl j=>cases ry;exact eq_bool (jJ I q V7)
  | str j=>obtain ⟨t',rfl⟩:=ry;exact PySem.EqMixed.eq_bool_str (jJ I q (by simp))
  | _=>exact absurd (show false=true from hs) ar
 | int i =>
  obtain ⟨t,rfl⟩:=rx
  cases y with
  | non=>cases ry;exact PySem.EqNone.eq_int_none (jJ I q (by simp))
  | int j=>obtain ⟨t',rfl⟩:=ry;exact eq_int (jJ I q Z2)
  | str j=>obtain ⟨t',rfl⟩:=ry;exact PySem.EqMixed.eq_int_str (jJ I q (by simp))
  | _=>exact absurd (show false=true from hs) ar
 | str i =>
  obtain ⟨t,rfl⟩:=rx
  cases y with
  | non=>cases ry;exact PySem.EqNone.eq_str_none (jJ I q (by simp))
  | bl j=>cases ry;exact PySem.EqMixed.eq_str_bool (jJ I q (by simp))
  | int j=>obtain ⟨t',rfl⟩:=ry;exact PySem.EqMixed.eq_str_int (jJ I q (by simp))
  | str j=>obtain ⟨t',rfl⟩:=ry;exact eq_str (jJ I q XY)
  | _=>exact absurd (show false=true from hs) ar
 | byt i =>
  obtain ⟨t,rfl⟩:=rx
  cases y with
  | byt j=>obtain ⟨t',rfl⟩:=ry;exact PySem.W.eq_bytes (jJ I q XI)
  | _=>exact absurd (show false=true from hs) ar
 | _=>cases y <;> exact absurd (show false=true from hs) ar
theorem Vc:OpR X (c5 .NotEq) rNe:=by
 intro pins s σ H x y v u Q I rx ry h
 obtain ⟨hs,q⟩:=h
 cases x with
 | non =>
  cases rx
  cases y with
  | non=>cases ry;exact PySem.EqNone.ne_none_none (jJ I q (by simp))
  | bl j=>cases ry;exact PySem.EqNone.ne_none_bool (jJ I q (by simp))
  | int j=>obtain ⟨t',rfl⟩:=ry;exact PySem.EqNone.ne_none_int (jJ I q (by simp))
  | str j=>obtain ⟨t',rfl⟩:=ry;exact PySem.EqNone.ne_none_str (jJ I q (by simp))
  | _=>exact absurd (show false=true from hs) ar
 | bl i =>
  cases rx
  cases y with
  | non=>cases ry;exact PySem.EqNone.ne_bool_none (jJ I q (by simp))
  | bl j=>cases ry;exact ne_bool (jJ I q (congrArg not V7))
  | str j=>obtain ⟨t',rfl⟩:=ry;exact PySem.EqMixed.ne_bool_str (jJ I q (by simp))
  | _=>exact absurd (show false=true from hs) ar
 | int i =>
  obtain ⟨t,rfl⟩:=rx
  cases y with
  | non=>cases ry;exact PySem.EqNone.ne_int_none (jJ I q (by simp))
  | int j=>obtain ⟨t',rfl⟩:=ry;exact ne_int (jJ I q (congrArg not Z2))
  | str j=>obtain ⟨t',rfl⟩:=ry;exact PySem.EqMixed.ne_int_str (jJ I q (by simp))
  | _=>exact absurd (show false=true from hs) ar
 | str i =>
  obtain ⟨t,rfl⟩:=rx
  cases y with
  | non=>cases ry;exact PySem.EqNone.ne_str_none (jJ I q (by simp))
  | bl j=>cases ry;exact PySem.EqMixed.ne_str_bool (jJ I q (by simp))
  | int j=>obtain ⟨t',rfl⟩:=ry;exact PySem.EqMixed.ne_str_int (jJ I q (by simp))
  | str j=>obtain ⟨t',rfl⟩:=ry;exact ne_str (jJ I q (congrArg not XY))
  | _=>exact absurd (show false=true from hs) ar
 | byt i =>
  obtain ⟨t,rfl⟩:=rx
  cases y with
  | byt j=>obtain ⟨t',rfl⟩:=ry;exact PySem.W.ne_bytes (jJ I q (congrArg not XI))
  | _=>exact absurd (show false=true from hs) ar
 | _=>cases y <;> exact absurd (show false=true from hs) ar
theorem yU:OpR X (c5 .Lt) (rI0 λi j=>.bl (decide (i<j))):=Uk λ_ _ _ _ _ _ _ q=>lt_int q
theorem qk:OpR X (c5 .LtE) (rI0 λi j=>.bl (decide (i<=j))):=Uk λ_ _ _ _ _ _ _ q=>le_int q
theorem Uy:OpR X (c5 .Gt) (rI0 λi j=>.bl (decide (j<i))):=Uk λ_ _ _ _ _ _ _ q=>gt_int q
theorem V0:OpR X (c5 .GtE) (rI0 λi j=>.bl (decide (j<=i))):=Uk λ_ _ _ _ _ _ _ q=>ge_int q
theorem Xz:OpR X (c5 .Is) (λx y H Q=>y = .non/\Q (.bl (decide (x = .non))) H):=by
 intro pins s σ H x y v u Q I rx ry h
 obtain ⟨rfl,q⟩:=h
 cases ry
 refine is_none_gen (jJ I q ?_)
 cases x <;> first
  | (cases rx;rfl)
  | (obtain ⟨t,rfl⟩:=rx;rfl)
theorem jK (b:Expr) {op:rm}(h:op≠.In:=by decide) (h2:op≠.NotIn:=by decide):eB op b=false:=by
 have e1:(op == CmpOp.In)=false:=by cases op <;> first | rfl | exact absurd rfl h
 have e2:(op == CmpOp.NotIn)=false:=by cases op <;> first | rfl | exact absurd rfl h2
 cases b <;> simp [eB,e1,e2]
theorem zw {op:rm}{r:R2}(ho:OpR X (c5 op) r) (ha:PE X a ta) (hb:PE X b tb) (hm:eB op b=false):PE X (.Compare a [op] [b] pos) (tOp r ta tb):=by
 intro pins s σ H Q I h
 exact wpAny_Compare1 (UE ha hb I h λv u s2 x y H2 I2 rx ry q=>ho pins s2 σ H2 x y v u Q I2 rx ry q) hm
noncomputable def JG (t:TE):TT:=λσ H Q=>t σ H λx H'=>∃k,x = .bl k/\Q k H'
theorem jD {op:rm}{r:R2}(ho:OpR X (c5 op) r) (ha:PE X a ta) (hb:PE X b tb) (hm:eB op b=false):PT X (.Compare a [op] [b] pos) (JG (tOp r ta tb)):=by
 intro pins s σ H Q I h
 refine mj (thn (ha pins s σ H _ I h) λv s1 ⟨x,H1,I1,r1,q1⟩=>thn (hb pins s1 σ H1 _ I1 q1) λu s2 ⟨y,H2,I2,r2,q2⟩ =>
  thn (ho pins s2 σ H2 x y v u _ I2 r1 r2 q2) λc s3 ⟨z,H3,I3,r3,k,e,q3⟩=>?_) hm
 subst e
 cases r3
 exact bY ⟨H3,I3,q3⟩
noncomputable def YF (r r':R2) (ta tb tc:TE):TE:=λσ H Q=>ta σ H λx H1=>tb σ H1 λy H2=>r x y H2 λz H3=>∃k,z = .bl k /\
 (if k=true then tc σ H3 λw' H4=>r' y w' H4 Q else Q (.bl false) H3)
theorem zT {op op':rm}{r r':R2}(ho:OpR X (c5 op) r) (ho':OpR X (c5 op') r') (ha:PE X a ta) (hb:PE X b tb) (hc:PE X c tc)
  (hm:lastMarks [op,op'] [b,c]=false:=by with_unfolding_all rfl):PE X (.Compare a [op,op'] [b,c] pos) (YF r r' ta tb tc):=by
 intro pins s σ H Q I h
 refine Compare_chain (thn (ha pins s σ H _ I h) λv s1 ⟨x,H1,I1,r1,q1⟩=>chain_link (thn (hb pins s1 σ H1 _ I1 q1) λu s2 ⟨y,H2,I2,r2,q2⟩ =>
  thn (ho pins s2 σ H2 x y v u _ I2 r1 r2 q2) λd s3 ⟨z,H3,I3,r3,k,e,q3⟩=>?_)) hm
 subst e
 cases r3
 refine bY ?_
 cases k with
 | false=>exact ite_ff ⟨.bl false,H3,I3,rfl,q3⟩
 | true=>exact ite_tt (chain_last (thn (hc pins s3 σ H3 _ I3 q3) λw' s4 ⟨z',H4,I4,r4,q4⟩=>ho' pins s4 σ H4 y z' u w' Q I4 r2 r4 q4))
theorem xz {op op':rm}{r r':R2}(ho:OpR X (c5 op) r) (ho':OpR X (c5 op') r') (ha:PE X a ta) (hb:PE X b tb) (hc:PE X c tc)
  (hm:lastMarks [op,op'] [b,c]=false:=by with_unfolding_all rfl):PT X (.Compare a [op,op'] [b,c] pos) (JG (YF r r' ta tb tc)):=by
 intro pins s σ H Q I h
 refine isTrue_chain (thn (ha pins s σ H _ I h) λv s1 ⟨x,H1,I1,r1,q1⟩=>test_link (thn (hb pins s1 σ H1 _ I1 q1) λu s2 ⟨y,H2,I2,r2,q2⟩ =>
  thn (ho pins s2 σ H2 x y v u _ I2 r1 r2 q2) λd s3 ⟨z,H3,I3,r3,k,e,q3⟩=>?_)) hm
 subst e
 cases r3
 refine bY ?_
 cases k with
 | false =>
  obtain ⟨k',e',q'⟩:=q3
  cases e'
  exact ite_ff ⟨H3,I3,q'⟩
 | true =>
  refine ite_tt (test_last (thn (hc pins s3 σ H3 _ I3 q3) λw' s4 ⟨z',H4,I4,r4,q4⟩=>thn (ho' pins s4 σ H4 y z' u w' _ I4 r2 r4 q4) λd' s5 ⟨z2,H5,I5,r5,k2,e2,q5⟩=>?_))
  subst e2
  cases r5
  exact bY ⟨H5,I5,q5⟩
theorem gZ:(sizeLine:Nat)<2 ^ 63:=by rw [bt];decide
theorem yW {x:V}{us:List af}(r:jz [x] us):∃u,us=[u]/\jA x u:=by
 cases r with
 | cons r1 r2=>cases r2;exact ⟨_,rfl,r1⟩
theorem XX {x y:V}{us:List af}(r:jz [x,y] us):∃u w',us=[u,w']/\jA x u/\jA y w':=by
 cases r with
 | cons r1 r2 =>
  cases r2 with
  | cons r3 r4=>cases r4;exact ⟨_,_,rfl,r1,r3⟩
theorem zU (hc:X.calm=true):xb X (.builtin "max") (λxs H Q=>∃i j,xs=[.int i,.int j]/\Q (.int (if j > i then j else i)) H):=by
 intro pins s σ H xs us Q I r h
 obtain ⟨i,j,rfl,q⟩:=h
 obtain ⟨u,w',rfl,⟨t,rfl⟩,⟨t',rfl⟩⟩:=XX r
 refine max_two_ints (I.ok.hd hc) λh' tk k=>⟨_,H,I.kept k,?_,q⟩
 by_cases hj:j > i
 ·rw [if_pos hj,if_pos hj];exact ⟨_,rfl⟩
 ·rw [if_neg hj,if_neg hj];exact ⟨_,rfl⟩
theorem ur (hc:X.calm=true):xb X (.builtin "min") (λxs H Q=>∃i j,xs=[.int i,.int j]/\Q (.int (if j<i then j else i)) H):=by
 intro pins s σ H xs us Q I r h
 obtain ⟨i,j,rfl,q⟩:=h
 obtain ⟨u,w',rfl,⟨t,rfl⟩,⟨t',rfl⟩⟩:=XX r
 refine min_two_ints (I.ok.hd hc) λh' tk k=>⟨_,H,I.kept k,?_,q⟩
 by_cases hj:j<i
 ·rw [if_pos hj,if_pos hj];exact ⟨_,rfl⟩
 ·rw [if_neg hj,if_neg hj];exact ⟨_,rfl⟩
end
end L2
namespace L2
structure ObjM (h:Heap) (x dx C:Addr) (mA:Str->Option af):Prop where
 obj:h.get? x=some (cT C dx)
 ns:h.Ns1 dx mA
 ne:dx≠x
theorem ZL {h:Heap}{dx:Addr}{mA:Str->Option af}(n:h.Ns1 dx mA):∃od,h.get? dx=some od/\∀name,iL name od=some (mA name):=by
 obtain ⟨o,es,ep,ho,hd,hk,_,hm⟩:=n
 refine ⟨o,ho,λname=>?_⟩
 have e:=hm name
 unfold nsFind findBy at e
 rw [<- Array.find?_toList] at e
 unfold iL
 rw [hd]
 dsimp only
 split
 ·rename_i y q
  rw [q] at e
  exact congrArg some e
 ·rename_i q
  rw [q] at e
  have a:es.toList.any (·.refKey)=false:=by
   rw [List.any_eq_false]
   intro y hy
   obtain ⟨z,t,hkey⟩:=hk y (Array.mem_toList_iff.mp hy)
   simp [DictEntry.refKey,hkey]
  have a':¬es.toList.any (·.refKey)=true:=by rw [a];exact ar
  rw [if_neg a']
  exact congrArg some e
theorem ObjM.look {h:Heap}{x dx C:Addr}{mA:Str->Option af}(I:ObjM h x dx C mA):∃od,PySem.W.InstAt h x (cT C dx) C (some od)/\∀name,iL name od=some (mA name) :=
 let ⟨od,ho,hl⟩:=ZL I.ns
 ⟨od,⟨I.obj,rfl,rfl,ho⟩,hl⟩
section
variable {prog:Program}{w:aU}{A:bb}{E:af->Shared->Prop}{s:Shared}{K:ag}{x dx C f:Addr}{mA:Str->Option af}{name:Str}{v:af}
theorem VA {expr:Bool}{Q:af->Shared->Prop}(X:K.In s.heap) (I:ObjM s.heap x dx C mA) (hg:eP K C name=true) (hh:fE K C=true)
  (ha:bF K (.ref C) name=some none) (hv:mA name=some v) (hv':oR v=true) (h:Q v { s with toks:=s.toks+1 }) :
  au (aC prog w) A (getAttr (.ref x) name expr) Q E s:=by
 obtain ⟨od,J,hl⟩:=I.look
 exact PySem.W.get_value X J (iB hg).1 (PySem.W.findObj_own hh ha rfl (by rw [hl,hv])) hv' h
theorem Ve {pl:Sem Bool}{Q:af×List af->Shared->Prop}(X:K.In s.heap) (I:ObjM s.heap x dx C mA) (hg:eP K C name=true)
  (hf:bF K (.ref C) name=some (some (.ref f))) (ht:nU K (.ref f)=true) (hv:mA name=none) (h:Q (.ref f,[.ref x]) s) :
  au (aC prog w) A (lI (.ref x) name pl) Q E s:=by
 obtain ⟨od,J,hl⟩:=I.look
 exact PySem.W.method_fn X J (iB hg).1 (iB hg).2 hf (beq_iff_eq.mp ht) (by show (iL name od).map (·.isSome)=some false;rw [hl,hv];rfl) h
theorem Vs {ns:List Str}{Q:Unit->Shared->Prop}(X:K.In s.heap) (I:ObjM s.heap x dx C mA)
  (hs:bF K (.ref C) "__setattr__" = some (some (.builtin "object.__setattr__"))) (hp:l9 K C=true) (ht:m9 K C name=some none) (hh:fE K C=true)
  (hw:nQ mA ns) (hsz:ns.length<=sizeLine)
  (h:∀h',ObjM h' x dx C (λy=>if y=name then some v else mA y)->cw dx s.heap h'->Q () { s with heap:=h',toks:=s.toks+2 }) :
  au (aC prog w) A (setAttr (.ref x) name v) Q E s:=by
 obtain ⟨od,J,hl⟩:=I.look
 refine PySem.W.set_plain X J hs (PySem.W.osa_open (s:={ s with toks:=s.toks+1 }) (r:=none) X J hp ht λb=>?_)
 obtain ⟨cd,hc,hd'⟩:=PySem.W.any_some hh
 have hx:s.heap.get? x=some ⟨.ref C,some dx,.plain,#[]⟩:=I.obj
 refine aa (wpAny_pure (aa (aa (wpAny_loadPart hx (aa (PySem.W.Looks.here (s:={ s with toks:=s.toks+1 }) (PySem.W.looks_clsIn X hc) ?_))))))
 rw [hd']
 refine wpAny_pure (a:=some dx) (aa (wpAny_pure (aa ?_)))
 refine wpAny_nsSet1 (s:={ s with toks:=s.toks+1 }) I.ns λh' hn2 hs2=>?_
 obtain ⟨oD,esD,epD,hoD,hdD,hcD⟩:=hn2.count (PySem.Within.cons name v hw)
 refine aa (wpAny_lookBehind hoD (by rw [hdD];exact pastItsLine_dict (aG hcD (by rw [bj];omega))) ?_)
 exact wpAny_pure (h _ ⟨(hs2.2 _ (cq I.ne)).trans I.obj,hn2,I.ne⟩ hs2)
theorem Vi {R:nu->Shared->Prop}{vs:List af}{kw:List (Str×af)}(X:K.In s.heap) (hm:ma K C=true)
  (hi:bF K (.ref C) "__init__" = some (some (.ref f))) (hf:PySem.W.typeIn K (.ref f)=some (.type "function"))
  (h:d5 (aC prog w) (A.under (.builtin "type.__call__" ⟨.ref C::vs,kw⟩)) (.call (.ref f) ⟨.ref (s.heap.objs.size+1)::vs,kw⟩) (PySem.W.InitBack (s.heap.objs.size+1) R)
   { s with heap:=(s.heap.push cc).push (cT C s.heap.objs.size) }) :
  d5 (aC prog w) A (.call (.ref C) ⟨vs,kw⟩) R s:=by
 obtain ⟨hh,g,d,t,os⟩:=s
 exact PySem.W.make_core (PySem.W.makes_of X hm) (PySem.W.looks_findIn X hi) (λself=>PySem.W.bind_fn X self hf) (.inl rfl) h
end
noncomputable def jp (f:Str) (v:V):List (Str×V)->List (Str×V)
 | []=>[(f,v)]
 | (g,x)::r=>if g=f then (g,v)::r else (g,x)::jp f v r
theorem jv (f g:Str) (v:V):∀fs:List (Str×V),(jp f v fs).lookup g=if g=f then some v else fs.lookup g
 | []=>by
  show dN g [(f,v)]=_
  by_cases h:g=f
  ·have hb:(g == f)=true:=beq_iff_eq.mpr h
   simp only [dN,hb,if_pos h]
  ·have hb:(g == f)=false:=beq_eq_false_iff_ne.mpr h
   simp only [dN,hb,if_neg h]
 | (k,x)::r=>by
  have ih:=jv f g v r
  rw [show jp f v ((k,x)::r)=(if k=f then (k,v)::r else (k,x)::jp f v r) from rfl]
  by_cases hk:k=f
  ·rw [if_pos hk]
   by_cases h:g=k
   ·have hb:(g == k)=true:=beq_iff_eq.mpr h
    simp only [dN,hb,if_pos (h.trans hk)]
   ·have hb:(g == k)=false:=beq_eq_false_iff_ne.mpr h
    simp only [dN,hb,if_neg (λe:g=f=>h (e.trans hk.symm))]
  ·rw [if_neg hk]
   by_cases h:g=k
   ·have hb:(g == k)=true:=beq_iff_eq.mpr h
    simp only [dN,hb,if_neg (λe:g=f=>hk (h.symm.trans e))]
   ·have hb:(g == k)=false:=beq_eq_false_iff_ne.mpr h
    simp only [dN,hb]
    exact ih
theorem um (f:Str) (v:V):∀fs:List (Str×V),f∈(jp f v fs).map (·.1)/\∀g,g∈fs.map (·.1)->g∈(jp f v fs).map (·.1)
 | []=>⟨by simp [jp],λg h=>by simp at h⟩
 | (k,x)::r=>by
  obtain ⟨i1,i2⟩:=um f v r
  rw [show jp f v ((k,x)::r)=(if k=f then (k,v)::r else (k,x)::jp f v r) from rfl]
  by_cases hk:k=f
  ·rw [if_pos hk]
   subst hk
   exact ⟨by simp,λg h=>by simpa using h⟩
  ·rw [if_neg hk]
   refine ⟨?_,λg h=>?_⟩
   ·rw [aJ]
    exact aD _ i1
   ·rw [aJ] at h ⊢
    rcases List.mem_cons.mp h with e | e
    ·exact List.mem_cons.mpr (.inl e)
    ·exact aD _ (i2 g e)
theorem jR (f:Str) (v:V):∀fs:List (Str×V),(jp f v fs).length<=fs.length+1
 | []=>by simp [jp]
 | (k,x)::r=>by
  have ih:=jR f v r
  rw [show jp f v ((k,x)::r)=(if k=f then (k,v)::r else (k,x)::jp f v r) from rfl]
  by_cases hk:k=f
  ·rw [if_pos hk,bj,bj];omega
  ·rw [if_neg hk,bj,bj];omega
theorem yn.some_of {v:V}{o:Option af}(r:yn (some v) o):∃u,o=some u/\jA v u:=by
 cases o with
 | none=>exact (show False from r).elim
 | some u=>exact ⟨u,rfl,r⟩
theorem yn.none_of {o:Option af}(r:yn none o):o=none:=by
 cases o with
 | none=>rfl
 | some u=>exact (show False from r).elim
theorem Y8 {v:V}{u:af}(r:jA v u):oR u=true:=by
 cases v with
 | non=>cases (show u=aS from r);rfl
 | bl b=>cases (show u=lN b from r);rfl
 | int i=>obtain ⟨t,e⟩:=(show ∃t,u=lB i t from r);cases e;rfl
 | str x=>obtain ⟨t,e⟩:=(show ∃t,u=mR x t from r);cases e;rfl
 | byt b=>obtain ⟨t,e⟩:=(show ∃t,u=Value.bytes b t from r);cases e;rfl
 | flt b=>obtain ⟨t,e⟩:=(show ∃t,u=pz b t from r);cases e;rfl
 | ref a=>cases (show u=aQ a from r);rfl
 | ty n=>cases (show u=fU n from r);rfl
section
variable {P:Program}{w:aU}{H H':Hp}{h h':Heap}{a C dx:Addr}{fs fs':List (Str×V)}
theorem wa (hok:HOk P w H h) (e:H a=some (.ins C dx fs)):∃mA,ObjM h a dx C mA/\(∀f,yn (fs.lookup f) (mA f))/\nQ mA (fs.map (·.1))/\fs.length<=1000/\H dx=some (.own a):=by
 obtain ⟨d,z,ne,ob,mA,n,r,q⟩:=(show jW P w H h a (.ins C dx fs) from hok a _ e)
 exact ⟨mA,⟨ob,n,ne⟩,r,q,z,d⟩
end
structure Cls (K:ag) (C:Addr):Prop where
 pg:eP K C Str.empty=true
 hd:fE K C=true
 po:l9 K C=true
 sa:bF K (.ref C) "__setattr__" = some (some (.builtin "object.__setattr__"))
theorem Cls.get {K:ag}{C:Addr}(c:Cls K C) (f:Str):eP K C f=true:=c.pg
noncomputable def zc (K:ag) (C:Addr) (f:Str):Prop:=bF K (.ref C) f=some none
theorem zc.taker {K:ag}{C:Addr}{f:Str}(n:zc K C f):m9 K C f=some none:=by
 unfold m9
 rw [show bF K (.ref C) f=some none from n]
 rfl
structure Meth (K:ag) (C:Addr) (m:Str) (f:Addr):Prop where
 at_:bF K (.ref C) m=some (some (.ref f))
 fn:nU K (.ref f)=true
 kp:bR K (.ref f)=true
section
variable {X:Cx}{pins:List (Addr×Obj)}{σ:St}{H:Hp}{s:Shared}{a C dx:Addr}{fs:List (Str×V)}{f:Str}{v:V}{A:bb}{E:af->Shared->Prop}
theorem QB {b:Bool}{Q:af->Shared->Prop}(I:Inv X pins σ H s) (e:H a=some (.ins C dx fs)) (c:Cls X.K C) (n:zc X.K C f) (l:fs.lookup f=some v)
  (h:∀u s',Inv X pins σ H s'->jA v u->Q u s'):au (aC X.prog X.w) A (getAttr (.ref a) f b) Q E s:=by
 obtain ⟨mA,O,r,_,_,_⟩:=wa I.hok e
 obtain ⟨u,hu,ru⟩:=yn.some_of (v:=v) (o:=mA f) (by rw [<- l];exact r f)
 exact VA I.kIn O (c.get f) c.hd n hu (Y8 ru) (h u _ (I.tok _) ru)
theorem vj {m:Str}{g:Addr}{pl:Sem Bool}{Q:af×List af->Shared->Prop}(I:Inv X pins σ H s) (e:H a=some (.ins C dx fs)) (c:Cls X.K C) (k:Meth X.K C m g) (l:fs.lookup m=none)
  (h:Q (.ref g,[.ref a]) s):au (aC X.prog X.w) A (lI (.ref a) m pl) Q E s:=by
 obtain ⟨mA,O,r,_,_,_⟩:=wa I.hok e
 have hn:mA m=none:=yn.none_of (by rw [<- l];exact r m)
 exact Ve I.kIn O (c.get m) k.at_ k.fn hn h
theorem Xd {y:V}{u:af}{Q:Unit->Shared->Prop}(I:Inv X pins σ H s) (e:H a=some (.ins C dx fs)) (c:Cls X.K C) (n:zc X.K C f) (hl:fs.length<1000) (ry:jA y u)
  (h:∀s',Inv X pins σ (upd H a (.ins C dx (jp f y fs))) s'->Q () s'):au (aC X.prog X.w) A (setAttr (.ref a) f u) Q E s:=by
 obtain ⟨mA,O,r,wi,_,ho⟩:=wa I.hok e
 have hz:(fs.map (·.1)).length<=sizeLine:=by rw [ah,bt];omega
 refine Vs I.kIn O c.sa c.po n.taker c.hd wi hz λh' O' sb=>h _ ?_
 have hd:∃o,h'.get? dx=some o:=let ⟨o,_,_,e',_⟩:=O'.ns;⟨o,e'⟩
 refine I.write (x:=a) (e:=dx) (by rw [e];exact cV) (.inr ho) (λb q hb z=>(sb.2 b hb).trans z) hd ?_
 refine ⟨by rw [j6 O.ne];exact ho,?_,O.ne,O'.obj,_,O'.ns,λg=>?_,λg hg=>?_⟩
 ·have:=jR f y fs;omega
 ·show yn ((jp f y fs).lookup g) (if g=f then some u else mA g)
  rw [jv]
  by_cases q:g=f
  ·rw [if_pos q,if_pos q];exact ry
  ·rw [if_neg q,if_neg q];exact r g
 ·by_cases q:g=f
  ·rw [q];exact (um f y fs).1
  ·refine (um f y fs).2 g (wi g λz=>hg ?_)
   show (if g=f then some u else mA g)=none
   rw [if_neg q];exact z
theorem Inv.made (I:Inv X pins σ H s):Inv X pins σ (upd (upd H s.heap.objs.size (.own (s.heap.objs.size+1))) (s.heap.objs.size+1) (.ins C s.heap.objs.size []))
  { s with heap:=(s.heap.push cc).push (cT C s.heap.objs.size) }:=by
 have e1:(s.heap.push cc).get? s.heap.objs.size=some cc:=az s.heap rfl
 have e2:((s.heap.push cc).push (cT C s.heap.objs.size)).get? (s.heap.objs.size+1)=some (cT C s.heap.objs.size):=by
  have:=az (s.heap.push cc) (o:=cT C s.heap.objs.size) rfl
  rwa [cz] at this
 have e3:(s.heap.push cc).Ns s.heap.objs.size (λ_=>none):=⟨cc,#[],_,e1,rfl,(λe he=>absurd he (by simp)),λ_=>rfl⟩
 have I1:=I.laid (a:=s.heap.objs.size) (o:=.own (s.heap.objs.size+1)) (h':=s.heap.push cc) (t':=s.toks) (λb u q=>ai _ q) (ao _) ⟨_,e1⟩
 refine I1.laid (a:=s.heap.objs.size+1) (o:=.ins C s.heap.objs.size []) (t':=s.toks) (λb u q=>ai _ q) (nW (cz _ _)) ?_
 have ne:s.heap.objs.size≠s.heap.objs.size+1:=aB (fV _)
 refine ⟨by rw [j6 ne,j5],aE _,ne,e2,λ_=>none,(Heap.Ns1.of_empty e3).at λo q=>ai _ q,λ_=>cV,λy hy=>absurd rfl hy⟩
theorem U0 {prog:Program}{w:aU}{env:Env}{e:Expr}{f:Str}{pos:Pos}{s:Shared}{Q:af->Shared->Prop}(hb:dA e f env (eval e env)=eval e env)
  (h:au (aC prog w) A (eval e env) (λo s₁=>au (aC prog w) A (getAttr o f true) Q E s₁) E s):au (aC prog w) A (eval (.Attribute e f pos) env) Q E s :=
 Attribute_any_ h (by rw [arm_eval_Attribute,hb])
end
noncomputable def WR (K:ag) (ta:TE) (f:Str):TE:=λσ H Q=>ta σ H λx H1=>∃a C dx fs v,x = .ref a/\H1 a=some (.ins C dx fs)/\Cls K C/\zc K C f/\fs.lookup f=some v/\Q v H1
noncomputable def Gv (K:ag) (ta tv:TE) (f:Str):TS:=λD σ H=>tv σ H λy H1=>ta σ H1 λx H2=>∃a C dx fs,x = .ref a/\H2 a=some (.ins C dx fs)/\Cls K C/\zc K C f/\fs.length<1000 /\
 D.nx σ (upd H2 a (.ins C dx (jp f y fs)))
section
variable {X:Cx}{o e value:Expr}{f:Str}{pos pos' tpos:Pos}{ta tv:TE}
theorem UI (he:PE X e ta) (hb:dA e f X.env (eval e X.env)=eval e X.env):PE X (.Attribute e f pos) (WR X.K ta f):=by
 intro pins s σ H Q I h
 refine U0 hb (thn (he pins s σ H _ I h) λu s1 ⟨x,H1,I1,rx,a,C,dx,fs,v,ex,ea,c,n,l,q⟩=>?_)
 subst ex
 obtain rfl:u=aQ a:=rx
 exact QB I1 ea c n l λu' s2 I2 ru=>⟨v,H1,I2,ru,q⟩
theorem Wi (ha:PE X o ta) (hv:PE X value tv) (hs:iI value (some (.Attribute o f pos')) pos.line X.env=pure false):PS X (.Assign [.Attribute o f pos'] value pos) (Gv X.K ta tv f):=by
 intro pins s σ H D I h
 refine plainObj_wpAny_Assign_Attribute (thn (hv pins s σ H _ I h) λu s1 ⟨y,H1,I1,ry,q⟩=>thn (ha pins s1 σ H1 _ I1 q) λov s2 ⟨x,H2,I2,rx,a,C,dx,fs,ex,ea,c,n,l,q2⟩=>?_) hs
 subst ex
 obtain rfl:ov=aQ a:=rx
 exact Xd I2 ea c n l ry λs3 I3=>⟨σ,_,I3,q2⟩
theorem Uw {pl:Sem Bool}{m:Str}{apos:Pos}{args:List Expr}{pins:List (Addr×Obj)}{s:Shared}{σ:St}{H:Hp}{Q:af->Shared->Prop}{te:TE}(he:PE X e te) (I:Inv X pins σ H s)
  (h:te σ H λx H1=>∃a C dx fs g,x = .ref a/\H1 a=some (.ins C dx fs)/\Cls X.K C/\Meth X.K C m g/\fs.lookup m=none /\
   ∀s1,Inv X pins σ H1 s1->au (aC X.prog X.w) X.A (nX pos (.ref g) [.ref a] (cF pos (aK args X.env)) (iM pos (eK [] X.env))) Q X.xe s1)
  (ht:eval (.Call (.Attribute e m apos) args [] pos) X.env=(do
   let ov <- eval e X.env
   fD apos.atName
   let (f,first) <- fe [ov] (lI ov m pl)
   nX pos f first (cF pos (aK args X.env)) (iM pos (eK [] X.env)))) :
  au (aC X.prog X.w) X.A (eval (.Call (.Attribute e m apos) args [] pos) X.env) Q X.xe s:=by
 refine fR (pl:=pl) (thn (he pins s σ H _ I h) λu s1 ⟨x,H1,I1,rx,a,C,dx,fs,g,ex,ea,c,k,l,q⟩=>?_) ht
 subst ex
 obtain rfl:u=aQ a:=rx
 exact vj I1 ea c k l (q s1 I1)
end
section
variable {X:Cx}{pins:List (Addr×Obj)}{σ:St}{H:Hp}{s:Shared}{A:bb}{E:af->Shared->Prop}{Q:af->Shared->Prop}{c:af}{b:Bool}
inductive TyOf (K:ag) (H:Hp):V->af->Prop where
 | non:TyOf K H .non (.type "NoneType")
 | bl (x:Bool):TyOf K H (.bl x) (.type "bool")
 | int (i:Int):TyOf K H (.int i) (.type "int")
 | str (x:Str):TyOf K H (.str x) (.type "str")
 | flt (x:UInt64):TyOf K H (.flt x) (.type "float")
 | lst {a:Addr} {xs:List V} (e:H a=some (.lst xs)):TyOf K H (.ref a) (.type "list")
 | frz {a:Addr} {o:Obj} {xs:List V} (e:H a=some (.frz o (.lst xs))):TyOf K H (.ref a) (.type "list")
 | tup {a:Addr} {xs:List V} (e:H a=some (.tup xs)):TyOf K H (.ref a) (.type "tuple")
 | dK {a:Addr} {kvs:List (Key×V)} (e:H a=some (.dK kvs)):TyOf K H (.ref a) (.type "dict")
 | dT {a:Addr} {kvs:List (List Key×V)} (e:H a=some (.dT kvs)):TyOf K H (.ref a) (.type "dict")
 | ins {a C dx:Addr} {fs:List (Str×V)} (e:H a=some (.ins C dx fs)) (cl:Cls K C) (ha:bF K (.ref C) "__class__" = some (some (.builtin "object.__class__")))
   (hn:PySem.W.specialIn K (.builtin "object.__class__") "__get__" = some (some (.builtin "getset_descriptor.__get__"))) (htk:PySem.W.takesIn K (.builtin "object.__class__")=some true)
   (hm:PySem.W.mroIn K C (.type "object")=some true):TyOf K H (.ref a) (.ref C)
theorem ZJ {x:V}{u t:af}(I:Inv X pins σ H s) (rx:jA x u) (ty:TyOf X.K H x t) (e:bq X.K t c=some b) (h:∀tk,Q (.bool b) { s with toks:=tk }) :
  au (aC X.prog X.w) A (call (.builtin "isinstance") [u,c]) Q E s:=by
 cases ty with
 | non=>cases (show u=aS from rx);exact c6 PySem.W.kitx_none I.kIn cV e (λz=>nomatch z) h
 | bl y=>cases (show u=lN y from rx);exact c6 PySem.W.kitx_bool I.kIn cV e (λz=>nomatch z) h
 | int i=>obtain ⟨t,q⟩:=(show ∃t,u=lB i t from rx);cases q;exact c6 PySem.W.kitx_int I.kIn cV e (λz=>nomatch z) h
 | str y=>obtain ⟨t,q⟩:=(show ∃t,u=mR y t from rx);cases q;exact c6 PySem.W.kitx_str I.kIn cV e (λz=>nomatch z) h
 | flt y=>obtain ⟨t,q⟩:=(show ∃t,u=pz y t from rx);cases q;exact c6 PySem.W.kitx_float I.kIn cV e (λz=>nomatch z) h
 | @lst a xs ea =>
  cases (show u=aQ a from rx)
  obtain ⟨_,_,n,_,h1⟩:=(show jW X.prog X.w H s.heap a (.lst xs) from I.hok a _ ea)
  exact c6 nZ I.kIn ⟨_,h1,rfl⟩ e (λz=>nomatch z) h
 | @frz a ob xs ea =>
  cases (show u=aQ a from rx)
  obtain ⟨_,_,_,n,_,h1⟩:=(show jW X.prog X.w H s.heap a (.frz ob (.lst xs)) from I.hok a _ ea)
  exact c6 nZ I.kIn ⟨_,h1,rfl⟩ e (λz=>nomatch z) h
 | @tup a xs ea =>
  cases (show u=aQ a from rx)
  obtain ⟨_,_,_,p⟩:=(show jW X.prog X.w H s.heap a (.tup xs) from I.hok a _ ea)
  obtain ⟨o,h1,h2,_⟩:=p
  exact c6 PySem.W.kitx_tuple I.kIn ⟨o,h1,h2⟩ e (λz=>nomatch z) h
 | @dK a kvs ea =>
  cases (show u=aQ a from rx)
  obtain ⟨_,_,vs,_,p⟩:=(show jW X.prog X.w H s.heap a (.dK kvs) from I.hok a _ ea)
  obtain ⟨o,es,ep,h1,h2,_⟩:=p
  exact c6 o9 I.kIn ⟨o,h1,h2.1⟩ e (λz=>nomatch z) h
 | @dT a kvs ea =>
  cases (show u=aQ a from rx)
  obtain ⟨_,_,xs,_,o,es,ep,h1,h2,_⟩:=(show jW X.prog X.w H s.heap a (.dT kvs) from I.hok a _ ea)
  exact c6 o9 I.kIn ⟨o,h1,h2.1⟩ e (λz=>nomatch z) h
 | @ins a C dx fs ea cl ha hn htk hm =>
  cases (show u=aQ a from rx)
  obtain ⟨mA,O,_⟩:=wa I.hok ea
  obtain ⟨od,J,_⟩:=O.look
  exact c6 (PySem.W.kitx_own (cl.get _) cl.hd ha hn htk hm) I.kIn J e (λz=>nomatch z) h
end
end L2
namespace L2
structure Room (k:Nat) (A:bb):Prop where
 hd:A.handled=none
 dp:A.depth+3*k+5<recursionLimit
 un:A.units+16*k+200<cLine
theorem Room.mono {j k:Nat}{A:bb}(r:Room k A) (h:j<=k):Room j A:=⟨r.hd,by have:=r.dp;omega,by have:=r.un;omega⟩
theorem Room.deeper {k:Nat}{A:bb}(r:Room (k+1) A) (env:Env):Room k (A.deeper env) :=
 ⟨r.hd,by have:=r.dp;show A.depth+1+3*k+5<_;omega,by have:=r.un;show A.units+3+16*k+200<_;omega⟩
theorem Room.in1 {k:Nat}{A:bb}(r:Room (k+1) A):Room k A.in1 :=
 ⟨r.hd,by have:=r.dp;show A.depth+3*k+5<_;omega,by have:=r.un;show A.units+1+16*k+200<_;omega⟩
theorem Xq {A:bb}{C:Addr}{us:List af}{kw:List (Str×af)}:(A.under (.builtin "type.__call__" ⟨.ref C::us,kw⟩)).depth=A.depth+1:=by
 first | rfl | simp [oa,Code.weight,Code.isCreation,Code.isGuard,Code.isCaller,Code.frames,og,guardIds]
theorem Xi {A:bb}{C:Addr}{us:List af}{kw:List (Str×af)}:(A.under (.builtin "type.__call__" ⟨.ref C::us,kw⟩)).units=A.units+1:=by
 first | rfl | simp [oa,Code.cUnits,Code.frames,og]
theorem Room.make {k:Nat}{A:bb}(r:Room (k+1) A) (C:Addr) (us:List af) (kw:List (Str×af)):Room k (A.under (.builtin "type.__call__" ⟨.ref C::us,kw⟩)) :=
 ⟨r.hd,by have:=r.dp;rw [Xq];omega,by have:=r.un;rw [Xi];omega⟩
theorem Room.depth {k:Nat}{A:bb}(r:Room k A):A.depth<recursionLimit:=by have:=r.dp;omega
theorem Room.units {k:Nat}{A:bb}(r:Room k A):A.units+64<cLine:=by have:=r.un;omega
noncomputable def VX:TA:=λ_ H Q=>Q [] H
noncomputable def Gp (ta:TE) (tr:TA):TA:=λσ H Q=>ta σ H λx H1=>tr σ H1 λxs H2=>Q (x::xs) H2
section
variable {X:Cx}{e:Expr}{es:List Expr}{te:TE}{t:TA}{pos:Pos}
theorem j2:PA X [] VX:=λ_ _ _ _ H Q I h=>oh ⟨[],H,I,.nil,h⟩
theorem j0 (ha:PE X e te) (hr:PA X es t) (hs:aK (e::es) X.env=(false,eval e X.env)::aK es X.env:=by rfl):PA X (e::es) (Gp te t):=by
 intro pos pins s σ H Q I h
 rw [hs]
 show au _ _ (spliced ((false,eval e X.env)::cF pos (aK es X.env))) _ _ s
 refine iN (thn (ha pins s σ H _ I h) λu s1 ⟨x,H1,I1,r1,q1⟩=>?_)
 exact thn (hr pos pins s1 σ H1 _ I1 q1) λus s2 ⟨xs,H2,I2,r2,q2⟩=>⟨x::xs,H2,I2,.cons r1 r2,q2⟩
end
noncomputable abbrev Sp:=List V->Hp->VK->XK->Prop
noncomputable abbrev CXT:=List Env->Hp->Shared->XK->af->Shared->Prop
structure Env0 (P:Program) (w:aU) (K:ag) (mg:Str->Option af) (base:Heap) (A:bb) (outer:List Env) (s:Shared) (H:Hp):Prop where
 frames:A.frames=some outer
 mod:Mod K mg base
 bs:∀b o,base.get? b=some o->s.heap.get? b=some o/\H b=none
 bsz:base.objs.size<=s.heap.objs.size
 funs:s.heap.FunFrames base outer
 frf:∀b∈frs outer,H b=none
 hok:HOk P w H s.heap
 bare:i5 s.gens
noncomputable def CE (outer:List Env) (P:Program) (w:aU) (H:Hp) (s:Shared) (Q:VK) (u:af) (s':Shared):Prop :=
 ∃v H',s'.os=s.os/\i5 s'.gens/\Un (frs outer) [] H H' s.heap s'.heap/\HOk P w H' s'.heap/\jA v u/\Q v H'
noncomputable def CR (CX:CXT) (outer:List Env) (P:Program) (w:aU) (H:Hp) (s:Shared) (Q:VK) (E:XK) (r:nu) (s':Shared):Prop :=
 match r with
 | .ok (.ret u)=>CE outer P w H s Q u s'
 | .ok _=>False
 | .error e=>CX outer H s E e s'
structure FnOk (P:Program) (w:aU) (K:ag) (mg:Str->Option af) (base:Heap) (CX:CXT) (k:Nat) (f:Addr) (fd:FuncData) (ps:List Str) (sp:Sp):Prop where
 len:∀vs H Q E,sp vs H Q E->vs.length=ps.length
 run:∀(A:bb) (outer:List Env) (s:Shared) (H:Hp) (args:Args) (us:List af) (vs:List V) (Q:VK) (E:XK),Room k A->Env0 P w K mg base A outer s H->pV s fd args (ps.zip us)->jz vs us->sp vs H Q E ->
  d5 (aC P w) A (.call (.ref f) args) (CR CX outer P w H s Q E) s
theorem Env0.make {P:Program}{w:aU}{K:ag}{mg:Str->Option af}{base:Heap}{A:bb}{outer:List Env}{s:Shared}{H:Hp}(e:Env0 P w K mg base A outer s H) (C:Addr) (us:List af) (kw:List (Str×af)) :
  Env0 P w K mg base (A.under (.builtin "type.__call__" ⟨.ref C::us,kw⟩)) outer s H:=⟨by first | exact e.frames | (simpa [oa,Code.envs,og,pushEnvs] using e.frames),e.mod,e.bs,e.bsz,e.funs,e.frf,e.hok,e.bare⟩
theorem Env0.in1 {P:Program}{w:aU}{K:ag}{mg:Str->Option af}{base:Heap}{A:bb}{outer:List Env}{s:Shared}{H:Hp}(e:Env0 P w K mg base A outer s H) :
  Env0 P w K mg base A.in1 outer s H:=⟨e.frames,e.mod,e.bs,e.bsz,e.funs,e.frf,e.hok,e.bare⟩
section
variable {X:Cx}{pins:List (Addr×Obj)}{σ:St}{H:Hp}{s s':Shared}
theorem Inv.env0 (I:Inv X pins σ H s):Env0 X.prog X.w X.K X.mg X.base X.A X.stack s H :=
 ⟨I.ok.frames,I.ok.mod,I.bs,aG I.ok.bsz I.sz,I.stack,I.stkFree,I.hok,I.bare⟩
theorem Inv.after {Q:VK}{u:af}(I:Inv X pins σ H s) (h:CE X.stack X.prog X.w H s Q u s'):EP X pins σ Q u s':=by
 obtain ⟨v,H',os,bare,un,hok,r,q⟩:=h
 obtain ⟨hh,g,d,t,os'⟩:=s'
 obtain rfl:os'=s.os:=os
 exact ⟨v,H',I.call (h':=hh) (g':=g) (d':=d) (t':=t) (ch:=[]) un hok bare (λb z=>absurd z (by simp)),r,q⟩
end
noncomputable def UB (sp:Sp) (dvs:List V) (E:XK) (t:TA):TE:=λσ H Q=>t σ H λvs H1=>sp (vs++dvs) H1 Q E
noncomputable def UA (C:Addr) (m:Str) (sp:Sp) (dvs:List V) (E:XK) (ta:TE) (t:TA):TE:=λσ H Q=>ta σ H λx H1=>∃a dx fs,x = .ref a/\H1 a=some (.ins C dx fs)/\fs.lookup m=none /\
 t σ H1 λvs H2=>sp (x::(vs++dvs)) H2 Q E
noncomputable def yk (K:ag) (fd:FuncData) (ps:List Str) (ds:List af):Prop :=
 ∀(s:Shared) (us:List af),K.In s.heap->(us++ds).length=ps.length->pV s fd ⟨us,[]⟩ (ps.zip (us++ds))
theorem yk.all {K:ag}{fd:FuncData}{ps:List Str}(h:∀us:List af,us.length=ps.length->cA fd ⟨us,[]⟩=pure (ps.zip us)):yk K fd ps []:=λs us _ hl=>by
 rw [bp] at hl ⊢
 exact .of_eq (h us hl)
noncomputable def Jy (CX:CXT) (X:Cx) (E:XK):Prop:=∀(pins:List (Addr×Obj)) (σ:St) (H:Hp) (s:Shared) (e:af) (s':Shared),Inv X pins σ H s->CX X.stack H s E e s'->X.xe e s'
section
variable {X:Cx}{CX:CXT}{k:Nat}{f C:Addr}{fd:FuncData}{ps:List Str}{sp:Sp}{dvs:List V}{ds:List af}{E:XK}{x m:Str}{p pos apos:Pos}{e o:Expr}{es:List Expr}{ta:TE}{t:TA}
theorem YH {pins:List (Addr×Obj)}{σ:St}{H:Hp}{s:Shared}{Q:VK}{us:List af}{vs:List V}(F:FnOk X.prog X.w X.K X.mg X.base CX k f fd ps sp) (hr:Room k X.A) (hb:yk X.K fd ps ds) (hd:jz dvs ds) (hx:Jy CX X E)
  (I:Inv X pins σ H s) (r:jz vs us) (h:sp (vs++dvs) H Q E):au (aC X.prog X.w) X.A (call (.ref f) us) (EP X pins σ Q) X.xe s:=by
 have r2:jz (vs++dvs) (us++ds):=r.append hd
 have hl:(us++ds).length=ps.length:=by rw [<- r2.length];exact F.len _ _ _ _ h
 refine lR (dz (F.run X.A X.stack s H ⟨us,[]⟩ (us++ds) (vs++dvs) Q E hr I.env0 (hb s us I.kIn hl) r2 h) λr s' hq=>?_)
 cases r with
 | error e=>exact hx pins σ H s e s' I hq
 | ok fl =>
  cases fl with
  | ret u=>exact I.after hq
  | next=>exact bA hq
  | brk=>exact bA hq
  | cont=>exact bA hq
theorem U4 (F:FnOk X.prog X.w X.K X.mg X.base CX k f fd ps sp) (hr:Room k X.A) (hg:Gl X x) (hm:X.mg x=some (.ref f)) (hk:bR X.K (.ref f)=true) (hb:yk X.K fd ps ds) (hd:jz dvs ds) (hx:Jy CX X E)
  (ha:PA X (e::es) t) (hdb:(x == ("__debug__" : Str))=false:=by decide) (he:aK (e::es) X.env=(false,eval e X.env)::aK es X.env:=by rfl) (hpl:(cF pos (aK es X.env)).any (·.1)=false:=by rfl) :
  PE X (.Call (.Name x p) (e::es) [] pos) (UB sp dvs E t):=by
 intro pins s σ H Q I h
 refine dg (vU I hg hm ?_ hdb)
 refine dQ (h₀:=X.base) I.ok.mod.kin hk (thn (ha pos pins s σ H _ I h) λus s1 ⟨vs,H1,I1,r,q⟩=>⟨I1.kIn,?_⟩) he hpl
 exact YH F hr hb hd hx I1 r q
theorem Vy {pl:Sem Bool}(he:PE X o ta) (c:Cls X.K C) (hm:Meth X.K C m f) (F:FnOk X.prog X.w X.K X.mg X.base CX k f fd ps sp) (hr:Room k X.A) (hb:yk X.K fd ps ds) (hd:jz dvs ds) (hx:Jy CX X E) (ha:PA X (e::es) t)
  (hst:aK (e::es) X.env=(false,eval e X.env)::aK es X.env:=by rfl) (hpl:(cF pos (aK es X.env)).any (·.1)=false:=by rfl)
  (ht:eval (.Call (.Attribute o m apos) (e::es) [] pos) X.env=(do
   let ov <- eval o X.env
   fD apos.atName
   let (f,first) <- fe [ov] (lI ov m pl)
   nX pos f first (cF pos (aK (e::es) X.env)) (iM pos (eK [] X.env))):=by rfl) :
  PE X (.Call (.Attribute o m apos) (e::es) [] pos) (UA C m sp dvs E ta t):=by
 intro pins s σ H Q I h
 refine fR (pl:=pl) (thn (he pins s σ H _ I h) λu s1 ⟨x,H1,I1,rx,a,dx,fs,ex,ea,l,q⟩=>?_) ht
 subst ex
 obtain rfl:u=aQ a:=rx
 refine vj I1 ea c hm l ?_
 refine dQ (first:=[.ref a]) (h₀:=X.base) I.ok.mod.kin hm.kp (thn (ha pos pins s1 σ H1 _ I1 q) λus s2 ⟨vs,H2,I2,r,q2⟩=>⟨I2.kIn,?_⟩) hst hpl
 exact YH (us:=.ref a::us) (vs:=.ref a::vs) F hr hb hd hx I2 (.cons rfl r) q2
structure Mk (K:ag) (C f:Addr):Prop where
 makes:ma K C=true
 init:bF K (.ref C) "__init__" = some (some (.ref f))
 fn:nU K (.ref f)=true
 kp:bR K (.ref C)=true
end
section
variable {X:Cx}{CX:CXT}{k:Nat}{f C:Addr}{fd:FuncData}{ps ks:List Str}{sp:Sp}{E:XK}{x m:Str}{p pos apos kpos:Pos}{e o:Expr}{es:List Expr}{kws:List lS}{te ta:TE}{t tk:TA}{nm:Option Str}
variable {g:List af->List af->List af}{gV:List V->List V->List V}
end
structure FnScope (N P:List Str) (sc:Scope):Prop where
 kind:sc.kind = .function
 co:sc.isCoroutine=false
 gen:sc.isGenerator=false
 nd:N.Nodup
 pre:N.take P.length=P
 par:∀x∈P,sc.names.lookup x=some .local\/sc.names.lookup x=some .cell
 nofree:∀y∈sc.names,y.2≠.free
theorem gP {kindOf:Str->Option fF}{x:Str}:∀{binds:List (Str×af)}{m:Str->Option af},(∀v,(x,v)∉binds)->rp kindOf binds m x=m x
 | [],_,_=>rfl
 | (n,v)::r,m,h=>by
  unfold rp
  rw [gP λw hw=>h w (aD _ hw)]
  split
  ·have:x≠n:=by rintro rfl;exact h v aH
   simp [this]
  ·rfl
theorem gL {kindOf:Str->Option fF}{x:Str}:∀{binds:List (Str×af)}{m:Str->Option af},(∀v,(x,v)∉binds)->rA kindOf binds m x=m x
 | [],_,_=>rfl
 | (n,v)::r,m,h=>by
  unfold rA
  rw [gL λw hw=>h w (aD _ hw)]
  split
  ·rfl
  ·have:x≠n:=by rintro rfl;exact h v aH
   simp [this]
theorem gG {kindOf:Str->Option fF}{x:Str}{v:af}:∀{P:List Str}{vs:List af}{i:Nat}{m:Str->Option af},P.Nodup->P[i]? = some x->vs[i]? = some v->kindOf x=some .local ->
  rp kindOf (P.zip vs) m x=some v
 | [],_,_,_,_,h,_,_=>by simp at h
 | _::_,[],_,_,_,_,h,_=>by simp at h
 | p::P,w::vs,0,m,nd,h1,h2,hk=>by
  simp at h1 h2;subst h1;subst h2
  show rp kindOf ((p,w)::P.zip vs) m p=_
  unfold rp
  rw [gP λv hv=>(List.nodup_cons.mp nd).1 (ik hv).1,if_pos hk]
  simp
 | p::P,w::vs,i+1,m,nd,h1,h2,hk=>by
  show rp kindOf ((p,w)::P.zip vs) m x=_
  unfold rp
  exact gG (i:=i) (List.nodup_cons.mp nd).2 (by simpa using h1) (by simpa using h2) hk
theorem gC {kindOf:Str->Option fF}{x:Str}{v:af}:∀{P:List Str}{vs:List af}{i:Nat}{m:Str->Option af},P.Nodup->P[i]? = some x->vs[i]? = some v->kindOf x≠some .local ->
  rA kindOf (P.zip vs) m x=some v
 | [],_,_,_,_,h,_,_=>by simp at h
 | _::_,[],_,_,_,_,h,_=>by simp at h
 | p::P,w::vs,0,m,nd,h1,h2,hk=>by
  simp at h1 h2;subst h1;subst h2
  show rA kindOf ((p,w)::P.zip vs) m p=_
  unfold rA
  rw [gL λv hv=>(List.nodup_cons.mp nd).1 (ik hv).1,if_neg hk]
  simp
 | p::P,w::vs,i+1,m,nd,h1,h2,hk=>by
  show rA kindOf ((p,w)::P.zip vs) m x=_
  unfold rA
  exact gC (i:=i) (List.nodup_cons.mp nd).2 (by simpa using h1) (by simpa using h2) hk
noncomputable def start (N:List Str) (vs:List V):St:=vs.map some++dh (N.length-vs.length) none
noncomputable def vd (CX:CXT) (P:Program) (w:aU) (K:ag) (mg:Str->Option af) (base:Heap) (N:List Str) (qual:Str) (scope:Scope) (f:Addr) (cd:af) (A:bb) (outer:List Env) (s:Shared) (H:Hp) (E:XK):Cx where
 prog:=P
 w:=w
 K:=K
 mg:=mg
 base:=base
 A:=A.deeper (lr qual scope s.heap.objs.size f cd)
 N:=N
 s₀:=s
 H₀:=H
 env:=lr qual scope s.heap.objs.size f cd
 outer:=outer
 stack:=lr qual scope s.heap.objs.size f cd::outer
 ex:=[]
 calm:=true
 fn:=λ_=>true
 pn:=[]
 xe:=λe s'=>au (aC P w) (A.deeper (lr qual scope s.heap.objs.size f cd)) (mS (lr qual scope s.heap.objs.size f cd) e) (λ_ s''=>CX outer H s E e s'') (λe' s''=>CX outer H s E e' s'') s'
theorem JQ {sc:Scope}{n:Nat}{x:Str}(h:sc.names.lookup x=some .cell):∃c,(oS n sc.names []).lookup x=some c:=by
 have q:=fG sc.names n [] (.inl h)
 exact Option.isSome_iff_exists.mp q
theorem kW {CX:CXT}{P:Program}{w:aU}{K:ag}{mg:Str->Option af}{base:Heap}{N ps:List Str}{qual:Str}{scope:Scope}{f:Addr}{cd:af}{A:bb}{outer:List Env}{s s1:Shared}{H:Hp}{E:XK}{us:List af}{vs:List V}
  (S:FnScope N ps scope) (hd:A.handled=none) (e0:Env0 P w K mg base A outer s H) (hl:vs.length=ps.length) (r:jz vs us)
  (x:InCallC s s.heap.objs.size (rp (lr qual scope s.heap.objs.size f cd).kindOf (ps.zip us) λ_=>none) (oS (s.heap.objs.size+1) scope.names []) (rA (lr qual scope s.heap.objs.size f cd).kindOf (ps.zip us) λ_=>none) s1) :
  Inv (vd CX P w K mg base N qual scope f cd A outer s H E) [] (start N vs) H s1:=by
 have hpl:ps.length<=N.length:=by have:=congrArg mB S.pre;rw [aM] at this;omega
 obtain ⟨h1,tk,rfl,hk⟩:=x.done
 have noA:∀b:Addr,b∉(vd CX P w K mg base N qual scope f cd A outer s H E).ex:=λb z=>absurd (show b∈([]:List Addr) from z) (by simp)
 refine ⟨⟨e0.mod,S.kind,rfl,rfl,ao _,λy z c h1 h2=>?_,λy hy=>?_,λy c _ h=>?_,λ_=>hd,Around.frames_deeper e0.frames,.inr ⟨rfl,rfl⟩,λb z=>absurd z (noA b),e0.bs,e0.bsz,λb _ _=>noA b,λb z=>absurd z (noA b),e0.funs,e0.frf⟩,
  rfl,e0.bare,Un.kept hk,⟨_,x.toInCall.ns,λi y v h1 h2 h3=>?_⟩,λy c h=>⟨_,x.cell y c h⟩,e0.hok.fresh (ao _),λy c h=>?_,λp hp=>absurd (show p∈([]:List (Addr×Obj)) from hp) (by simp),e0.hok.kept hk,?_⟩
 ·exact name_of_addr x.apart (cY h1) (cY h2)
 ·have hy:scope.names.lookup y=some .cell\/scope.names.lookup y=some .free:=hy
  rcases hy with hy | hy
  ·exact JQ hy
  ·exact absurd rfl (S.nofree _ (cY hy))
 ·exact eO (x.above y c (cY h))
 ·have hi:i<vs.length:=by
   unfold start at h2
   by_cases hi:i<vs.length
   ·exact hi
   ·rw [bK (by simpa using hi)] at h2
    rw [lJ] at h2
    split at h2 <;> cases h2
  have ha:vs[i]? = some v:=by
   unfold start at h2
   rw [c8 (by simpa using hi),ax] at h2
   cases e:vs[i]? with
   | none=>rw [e] at h2;cases h2
   | some a=>rw [e] at h2;cases h2;rfl
  obtain ⟨u,hu,rv⟩:=r.get ha
  have hp:ps[i]? = some y:=by
   rw [<- S.pre,List.getElem?_take_of_lt ∅];exact h1
  have ndP:ps.Nodup:=by rw [<- S.pre];exact S.nd.sublist (List.take_sublist _ _)
  refine ⟨u,rv,?_⟩
  rcases S.par y (aw hp) with k | k
  ·exact .inl ⟨k,gG ndP hp hu k⟩
  ·obtain ⟨c,e⟩:=JQ (n:=s.heap.objs.size+1) k
   refine .inr ⟨.inl k,c,e,?_⟩
   have q:=x.cell y c e
   rw [gC ndP hp hu (by show scope.names.lookup y≠_;rw [k];decide)] at q
   exact q
 ·exact e0.hok.fresh (eO (x.above y c (cY h)))
 ·unfold start
  show _=N.length
  rw [aq,ah,eF]
  omega
theorem Vf {CX:CXT}{P:Program}{w:aU}{K:ag}{mg:Str->Option af}{base:Heap}{k:Nat}{f:Addr}{name qual:Str}{params:Arguments}{body:List Stmt}{scope:Scope}{dV kV doc pm cdv ct oc:af}{an od:Option Addr}
  {osl:Array (Option af)} {N ps:List Str} {sp:Sp} (lk:K.lookup f=some ⟨oc,od,.func (bB name qual params body scope dV kV doc pm an cdv ct),osl⟩) (hcd:cB K cdv qual=true) (S:FnScope N ps scope)
  (len:∀vs H Q E,sp vs H Q E->vs.length=ps.length)
  (hbody:∀(A:bb) (outer:List Env) (s:Shared) (H:Hp) (vs:List V) (Q:VK) (E:XK),Room k (A.deeper (lr qual scope s.heap.objs.size f cdv))->sp vs H Q E ->
   ∃t,PSs (vd CX P w K mg base N qual scope f cdv A outer s H E) body t/\t { nx:=λ_ H'=>Q .non H',rt:=Q } (start N vs) H) :
  FnOk P w K mg base CX (k+1) f (bB name qual params body scope dV kV doc pm an cdv ct) ps sp:=by
 refine ⟨len,λA outer s H args us vs Q E hr e0 hb r hsp=>?_⟩
 have hl:=len _ _ _ _ hsp
 have KX:K.In s.heap:=e0.mod.kin.keeps λb o e=>(e0.bs b o e).1
 have lim:s.heap.NoLimit:=e0.mod.nolimit.keeps λb o e=>(e0.bs b o e).1
 have hkind:∀y∈ps.zip us,scope.names.lookup y.1=some .local\/(scope.names.lookup y.1=some .cell/\((oS (s.heap.objs.size+1) scope.names []).lookup y.1).isSome=true):=λ⟨n,v⟩ hy=>by
  rcases S.par n (ik hy).1 with q | q
  ·exact .inl q
  ·exact .inr ⟨q,fG _ _ _ (.inl q)⟩
 refine codeAny_call_function hr.depth (KX _ _ lk) rfl S.co S.gen rfl (PySem.W.codeRec_of KX hcd) (hb _ _ _ _ ?_)
 refine iO S.kind hkind λenv he s1 x=>?_
 subst he
 refine ⟨lim.keeps x.toInCall.keep,codeAny_func ?_⟩
 obtain ⟨t,ht,hq⟩:=hbody A outer s H vs Q E (hr.deeper _) hsp
 have I:Inv (vd CX P w K mg base N qual scope f cdv A outer s H E) [] (start N vs) H s1:=kW S hr.hd e0 hl r x
 refine b7 (ht [] s1 (start N vs) H _ I hq) (λfl s' hs=>?_) λe s' hs=>hs
 have fin:∀{σ':St} {H':Hp} {v:V} {u:af},Inv (vd CX P w K mg base N qual scope f cdv A outer s H E) [] σ' H' s'->jA v u->Q v H'->CE outer P w H s Q u s' :=
  λ{σ' H' v u} J rv q=>⟨v,H',J.os,J.bare,J.base,J.hok,rv,q⟩
 cases fl with
 | ret u =>
  obtain ⟨v,σ',H',J,rv,q⟩:=hs
  exact fin J rv q
 | next =>
  obtain ⟨σ',H',J,q⟩:=hs
  exact fin (v:=V.non) (u:=aS) J rfl q
 | brk =>
  obtain ⟨_,_,_,q⟩:=hs
  exact bA q
 | cont =>
  obtain ⟨_,_,_,q⟩:=hs
  exact bA q
end L2
namespace L2
section
variable {X:Cx}{x:Str}{p pos:Pos}{e:Expr}{es:List Expr}{t:TA}{id T:String}{r:List V->Hp->VK->Prop}
noncomputable def tCB (r:List V->Hp->VK->Prop) (t:TA):TE:=λσ H Q=>t σ H λvs H1=>r vs H1 Q
theorem je (hc:xb X (.builtin id) r) (hg:Gl X x) (hm:X.mg x=none) (hv:fC x=some (.builtin id)) (ha:PA X (e::es) t) (hn:x ≠ "__name__":=by decide) (hdb:(x == ("__debug__" : Str))=false:=by decide)
  (he:aK (e::es) X.env=(false,eval e X.env)::aK es X.env:=by rfl) (hpl:(cF pos (aK es X.env)).any (·.1)=false:=by rfl):PE X (.Call (.Name x p) (e::es) [] pos) (tCB r t):=by
 intro pins s σ H Q I h
 refine dg (y7 I hg hm hv ?_ hn hdb)
 exact PyProof.Rows.callWith_builtin1 (thn (ha pos pins s σ H _ I h) λus s1 ⟨vs,H1,I1,r1,q1⟩=>hc pins s1 σ H1 vs us Q I1 r1 q1) he hpl
theorem qH (hc:xb X (.type T) r) (hg:Gl X x) (hm:X.mg x=none) (hv:fC x=some (.type T)) (ha:PA X (e::es) t) (hn:x ≠ "__name__":=by decide) (hdb:(x == ("__debug__" : Str))=false:=by decide)
  (he:aK (e::es) X.env=(false,eval e X.env)::aK es X.env:=by rfl) (hpl:(cF pos (aK es X.env)).any (·.1)=false:=by rfl):PE X (.Call (.Name x p) (e::es) [] pos) (tCB r t):=by
 intro pins s σ H Q I h
 refine dg (y7 I hg hm hv ?_ hn hdb)
 exact bZ (thn (ha pos pins s σ H _ I h) λus s1 ⟨vs,H1,I1,r1,q1⟩=>hc pins s1 σ H1 vs us Q I1 r1 q1) he hpl
end
end L2
namespace HT
open PySem PyProof.Rows
section
open PySem.SeqAt
open PySem.AutoSeq1 (wpAny_loadPart')
open PySem.MeetsSeq PySem.MeetsSeq2 PySem.MeetsSeq3
end
section
variable {prog:Program}{w:aU}{A:bb}{E:af->Shared->Prop}{s:Shared}
noncomputable def sIx (n d:Nat):Option Int->Nat
 | none=>d
 | some v=>if v<0 then (v+(n:Int)).toNat else min v.toNat n
theorem sIx_none (n d:Nat):sIx n d none=d:=rfl
theorem sIx_nat (n d k:Nat):sIx n d (some (k:Int))=min k n:=by
 show (if (k:Int)<0 then ((k:Int)+(n:Int)).toNat else min (k:Int).toNat n)=min k n
 rw [if_neg ∅,bw]
theorem We (n d:Nat) (hd:d<=n) (o:Option Int):sIx n d o<=n:=by
 cases o with
 | none=>exact hd
 | some v =>
  show (if v<0 then (v+(n:Int)).toNat else min v.toNat n)<=n
  by_cases hv:v<0
  ·rw [if_pos hv];omega
  ·rw [if_neg hv];exact Nat.min_le_right _ _
theorem XU (v:Int) (n d:Nat):(if v<0 then max (v+(n:Int)) 0 else min v (n:Int))=((sIx n d (some v):Nat):Int):=by
 show (if v<0 then max (v+(n:Int)) 0 else min v (n:Int))=(((if v<0 then (v+(n:Int)).toNat else min v.toNat n):Nat):Int)
 by_cases hv:v<0
 ·simp only [if_pos hv];omega
 ·simp only [if_neg hv];omega
theorem Xh (lo hi:Option Int) (n:Nat):c9 lo hi 1 (n:Int)=(((sIx n 0 lo:Nat):Int),((sIx n n hi:Nat):Int)):=by
 have h1:¬((1:Int)<0):=∅
 unfold c9
 simp only [h1,if_false]
 refine sO ?_ ?_
 ·cases lo with
  | none=>rfl
  | some v=>exact XU v n 0
 ·cases hi with
  | none=>rfl
  | some v=>exact XU v n n
theorem Xp (i j:Nat):bH (i:Int) (j:Int) 1=j-i:=by
 unfold bH
 have h1:(1:Int) > 0:=∅
 simp only [h1,if_true,Int.ediv_one]
 split <;> omega
theorem slicePart_ {v:af}{o:Option Int}{Q:Option Int->Shared->Prop}(p:lT v o) (h:Q o s):au (aC prog w) A (Builtin.Slice.slicePartIndex v) Q E s:=by
 cases p with
 | none=>exact rC h
 | int i t=>exact slicePart_int h
theorem uB {sl:Addr}{vl vu:af}{lo hi:Option Int}{n:Nat}{Q:Int×Int×Nat->Shared->Prop}(hs:s.heap.IsSliceOf sl vl vu .none) (pl:lT vl lo) (pu:lT vu hi)
  (h:Q (((sIx n 0 lo:Nat):Int),1,sIx n n hi-sIx n 0 lo) s):au (aC prog w) A (di (.ref sl) (pure (n:Int))) Q E s:=by
 obtain ⟨os,hos,hcs,hds⟩:=id hs
 unfold di iT
 refine aa (aa (bC hos hds (x:=vl) rfl (aa (bC hos hds (x:=vu) rfl (aa (bC hos hds (x:=.none) rfl (wpAny_pure ?_)))))))
 refine aa (rC ?_)
 show au _ _ (if ((1:Int) == 0)=true then _ else _) _ _ s
 rw [if_neg ⋯]
 refine aa (slicePart_ pl (aa (slicePart_ pu (aa (wpAny_pure ?_)))))
 show au _ _ (match c9 lo hi 1 (n:Int) with | (lo,hi)=>pure (lo,(1:Int),bH lo hi 1)) _ _ s
 rw [Xh lo hi n]
 show au _ _ (pure (((sIx n 0 lo:Nat):Int),(1:Int),bH ((sIx n 0 lo:Nat):Int) ((sIx n n hi:Nat):Int) 1)) _ _ s
 rw [Xp]
 exact wpAny_pure h
theorem YG (xs:Array af) (i k:Nat):((aF k).filterMap λ(m:Nat)=>xs[((i:Int)+(m:Int)*1).toNat]?).toArray=((xs.toList.drop i).take k).toArray:=by
 have e:(λ(m:Nat)=>xs[((i:Int)+(m:Int)*1).toNat]?)=λm=>xs[i+m]?:=by
  funext m
  have:((i:Int)+(m:Int)*1).toNat=i+m:=∅
  rw [this]
 rw [e]
 have:=pick_run xs i k
 rw [nv] at this
 have e2:((λx=>xs[x]?) ∘ λx=>i+x)=λm=>xs[i+m]?:=rfl
 rw [e2] at this
 rw [this]
theorem getItem_tuple_cut {t sl:Addr}{items:Array af}{vl vu:af}{lo hi:Option Int}{Q:af->Shared->Prop}(ht:IsTup s.heap t items) (hs:s.heap.IsSliceOf sl vl vu .none) (pl:lT vl lo) (pu:lT vu hi)
  (hw:¬(sIx items.size 0 lo=0/\sIx items.size items.size hi=items.size))
  (h:Q (.ref s.heap.objs.size) { s with heap:=s.heap.push { cls:=.type "tuple",data:=.seq ((items.toList.drop (sIx items.size 0 lo)).take (sIx items.size items.size hi-sIx items.size 0 lo)).toArray } })
  (hsz:items.size<=sizeLine):au (aC prog w) A (iE (.ref t) (.ref sl)) Q E s:=by
 have htake:sizeOk (.seq ((items.toList.drop (sIx items.size 0 lo)).take (sIx items.size items.size hi-sIx items.size 0 lo)).toArray):=by
  show ((items.toList.drop (sIx items.size 0 lo)).take (sIx items.size items.size hi-sIx items.size 0 lo)).toArray.size<=sizeLine
  rw [av,aM,eQ,bV]
  omega
 have hj:sIx items.size items.size hi<=items.size:=We _ _ (ao _) hi
 obtain ⟨os,hos,hcs,hds⟩:=id hs
 have hTs:s.TypeIs (.ref sl) "slice":=⟨os,hos,hcs⟩
 unfold iE
 try with_reducible refine bN ?_
 first | refine aa (wpAny_pure ?_) | skip
 refine aa (oj ht.typeIs ⋯ ?_)
 refine aa (bL (name:=aj "__getitem__") ht.typeIs cG
  (cI cG ht.typeIs mX ?_ (nA _ _)))
 show au _ _ (iP (.ref t) >>= _) _ _ s
 refine aa (sf ht ?_)
 refine aa (lU hTs ?_)
 rw [if_pos ⋯]
 refine aa (uB hs pl pu ?_)
 have hno:¬((((sIx items.size 0 lo:Nat):Int) == 0 && (1:Int) == 1 && (sIx items.size items.size hi-sIx items.size 0 lo) == items.size)=true):=by
  intro q
  rw [aY,aY] at q
  have q1:((sIx items.size 0 lo:Nat):Int)=0:=sx q.1.1
  have q2:sIx items.size items.size hi-sIx items.size 0 lo=items.size:=sx q.2
  exact hw ⟨∅,∅⟩
 show au _ _ (if (((sIx items.size 0 lo:Nat):Int) == 0 && (1:Int) == 1 && (sIx items.size items.size hi-sIx items.size 0 lo) == items.size)=true then _ else _) _ _ s
 rw [if_neg hno,YG]
 first
  | exact aa (m:=bI _) (bx (wpAny_pure ⟨_,rfl,wpAny_pure h⟩) htake)
  | exact aa (m:=bI _) (bx (aa (wpAny_pure (wpAny_pure ⟨_,rfl,wpAny_pure h⟩))) htake)
  | exact aa (aa (m:=bI _) (bx (wpAny_pure (wpAny_pure ⟨_,rfl,wpAny_pure h⟩)) htake))
  | exact aa (aa (m:=bI _) (bx (wpAny_pure ⟨_,rfl,wpAny_pure h⟩) htake))
end
end HT
namespace L2
noncomputable abbrev TO:=St->Hp->(Option Int->Hp->Prop)->Prop
noncomputable def PO (X:Cx) (e:Option Expr) (t:TO):Prop :=
 ∀(pins:List (Addr×Obj)) (s:Shared) (σ:St) (H:Hp) (Q:Option Int->Hp->Prop),Inv X pins σ H s->t σ H Q ->
  au (aC X.prog X.w) X.A (evalPart e X.env) (λu s'=>∃o H',Inv X pins σ H' s'/\lT u o/\Q o H') X.xe s
noncomputable def Ud:TO:=λ_ H Q=>Q none H
noncomputable def Go (t:TE):TO:=λσ H Q=>t σ H λx H1=>∃i,x = .int i/\Q (some i) H1
section
variable {X:Cx}{e:Expr}{te:TE}{lo hi:Option Expr}{tl th:TO}{pos p2:Pos}
theorem wc:PO X none Ud:=by
 intro pins s σ H Q I h
 rw [lu]
 exact wpAny_pure ⟨none,H,I,.none,h⟩
theorem w5 (h:PE X e te):PO X (some e) (Go te):=by
 intro pins s σ H Q I hw
 rw [mZ]
 refine thn (h pins s σ H _ I hw) λu s1 ⟨x,H1,I1,r1,q1⟩=>?_
 obtain ⟨i,rfl,q⟩:=q1
 obtain ⟨t,rfl⟩:=r1
 exact ⟨some i,H1,I1,.int i t,q⟩
noncomputable def SlR (X:Cx) (r:V->Option Int->Option Int->Hp->VK->Prop):Prop :=
 ∀(pins:List (Addr×Obj)) (s:Shared) (σ:St) (H:Hp) (x:V) (v vl vu:af) (lo hi:Option Int) (sl:Addr) (Q:VK),Inv X pins σ H s->jA x v->s.heap.IsSliceOf sl vl vu .none->lT vl lo->lT vu hi->r x lo hi H Q ->
  ∃T id,rE (.type T) "__getitem__" = pure (some (.builtin id))/\s.TypeIs v T/\au (aC X.prog X.w) X.A (iE v (.ref sl)) (EP X pins σ Q) X.xe s
noncomputable def tSl (r:V->Option Int->Option Int->Hp->VK->Prop) (te:TE) (tl th:TO):TE:=λσ H Q=>te σ H λx H1=>tl σ H1 λl H2=>th σ H2 λu H3=>r x l u H3 Q
theorem vG {r:V->Option Int->Option Int->Hp->VK->Prop}(hr:SlR X r) (he:PE X e te) (hl:PO X lo tl) (hu:PO X hi th):PE X (.Subscript e (.Slice lo hi none p2) pos) (tSl r te tl th):=by
 intro pins s σ H Q I h
 refine lV (thn (he pins s σ H _ I h) λv s1 ⟨x,H1,I1,r1,q1⟩=>?_)
 refine pE (thn (hl pins s1 σ H1 _ I1 q1) λvl s2 ⟨l,H2,I2,pl,q2⟩=>thn (hu pins s2 σ H2 _ I2 q2) λvu s3 ⟨u,H3,I3,pu,q3⟩=>?_)
 rw [lu]
 refine wpAny_pure ?_
 have I4:Inv X pins σ H3 { s3 with heap:=s3.heap.push { cls:=.type "slice",data:=.fields #[vl,vu,.none] } }:=I3.kept (t':=s3.toks) λb ob q=>ai _ q
 obtain ⟨T,id,hT,ht,hg⟩:=hr pins { s3 with heap:=s3.heap.push { cls:=.type "slice",data:=.fields #[vl,vu,.none] } } σ H3 x v vl vu l u s3.heap.objs.size Q I4 r1 (iQ ..) pl pu q3
 show au (aC X.prog X.w) X.A (i6 e (.Slice lo hi none p2) v (.ref s3.heap.objs.size)) (EP X pins σ Q) X.xe { s3 with heap:=s3.heap.push { cls:=.type "slice",data:=.fields #[vl,vu,.none] } }
 exact sP (ops:=[.ref s3.heap.objs.size,v]) ht hT hg (by with_unfolding_all rfl)
noncomputable def uV (xs:List V) (lo hi:Option Int):List V:=(xs.drop (HT.sIx xs.length 0 lo)).take (HT.sIx xs.length xs.length hi-HT.sIx xs.length 0 lo)
theorem uH (xs:List V) (lo hi:Option Int):(uV xs lo hi).length<=xs.length:=by
 unfold uV
 rw [aM,eQ]
 omega
noncomputable def rSlT (K:ag):V->Option Int->Option Int->Hp->VK->Prop:=λx lo hi H Q=>∃a xs,x = .ref a/\SqT K H a xs /\
 ¬(HT.sIx xs.length 0 lo=0/\HT.sIx xs.length xs.length hi=xs.length)/\∀p,H p=none->Q (.ref p) (upd H p (.tup (uV xs lo hi)))
theorem UY:SlR X (rSlT X.K):=by
 intro pins s σ H x v vl vu lo hi sl Q I rx hs pl pu h
 obtain ⟨a,xs,rfl,hx,hw,q⟩:=h
 cases rx
 obtain ⟨its,r,ht,hz⟩:=I.tuple hx
 have hlen:its.toArray.size=xs.length:=by rw [av];exact r.length.symm
 refine ⟨"tuple",_,PyProof.Rows.slot_tuple_getitem.lookup,ht.typeIs,?_⟩
 refine HT.getItem_tuple_cut ht hs pl pu (by rw [hlen];exact hw) ?_ (by rw [hlen];exact hz)
 rw [hlen]
 refine ⟨.ref s.heap.objs.size,_,I.laid (t':=s.toks) (o:=.tup (uV xs lo hi)) (λb ob q=>ai _ q) (ao _) ?_,rfl,q _ (I.hok.fresh (ao _))⟩
 exact ⟨aG (uH xs lo hi) hz,_,(r.drop (HT.sIx xs.length 0 lo)).take (HT.sIx xs.length xs.length hi-HT.sIx xs.length 0 lo),sy _ _⟩
end
end L2
namespace L2
noncomputable def ixN (n:Nat) (i:Int):Option Nat:=if 0<=i then (if i<n then some i.toNat else none) else if -(n:Int)<=i then some (i+n).toNat else none
noncomputable def atI {α:Type}(xs:List α) (i:Int):Option α:=(ixN xs.length i).bind λj=>xs[j]?
theorem XJ {n:Nat}{i:Int}{j:Nat}(h:ixN n i=some j):seqIndex? i n=some j/\j<n /\ -(n:Int)<=i/\i<n:=by
 unfold ixN at h
 by_cases h0:0<=i
 ·rw [if_pos h0] at h
  by_cases h1:i<n
  ·rw [if_pos h1] at h
   have e:i.toNat=j:=aO h
   exact ⟨by rw [pG h0 h1,e],∅,∅,h1⟩
  ·rw [if_neg h1] at h;cases h
 ·rw [if_neg h0] at h
  by_cases h1 : -(n:Int)<=i
  ·rw [if_pos h1] at h
   have e:(i+n).toNat=j:=aO h
   exact ⟨by rw [om ∅ h1,e],∅,h1,∅⟩
  ·rw [if_neg h1] at h;cases h
theorem Z3 {α:Type}{xs:List α}{i:Int}{v:α}(h:atI xs i=some v):∃j,seqIndex? i xs.length=some j/\xs[j]? = some v/\j<xs.length /\ -(xs.length:Int)<=i/\i<xs.length:=by
 unfold atI at h
 cases e:ixN xs.length i with
 | none=>rw [e] at h;cases h
 | some j =>
  rw [e] at h
  obtain ⟨h1,h2,h3,h4⟩:=XJ e
  exact ⟨j,h1,h,h2,h3,h4⟩
theorem zu {α:Type}{xs:List α}{j:Nat}{v:α}(h:xs[j]? = some v):atI xs (j:Int)=some v:=by
 have hj:j<xs.length:=(List.getElem?_eq_some_iff.mp h).1
 have e:ixN xs.length (j:Int)=some j:=by
  unfold ixN
  rw [if_pos ∅,if_pos ∅];simp
 unfold atI;rw [e];exact h
theorem Qf {α:Type}(xs:List α) (v:α):atI (xs++[v]) (-1)=some v:=by
 have hl:(xs++[v]).length=xs.length+1:=by simp
 have e:ixN (xs++[v]).length (-1)=some xs.length:=by
  unfold ixN
  rw [hl,if_neg ⋯,if_pos ∅]
  congr 1
  omega
 unfold atI
 rw [e]
 show (xs++[v])[xs.length]? = some v
 simp
noncomputable def Ui (b:Expr):Prop:=∀o i,mC b false o i=operate [o,i] (iE o i)
noncomputable def IxR (X:Cx) (r:R2):Prop :=
 ∀(value slice:Expr) (pins:List (Addr×Obj)) (s:Shared) (σ:St) (H:Hp) (x y:V) (v u:af) (Q:VK),Inv X pins σ H s->jA x v->jA y u->r x y H Q ->
  mC slice false v u=operate [v,u] (iE v u)->au (aC X.prog X.w) X.A (i6 value slice v u) (EP X pins σ Q) X.xe s
noncomputable def MtR (X:Cx) (id:String) (r:V->List V->Hp->VK->Prop):Prop :=
 ∀(pins:List (Addr×Obj)) (s:Shared) (σ:St) (H:Hp) (x:V) (xs:List V) (v:af) (us:List af) (Q:VK),Inv X pins σ H s->jA x v->jz xs us->r x xs H Q ->
  au (aC X.prog X.w) X.A (call (.builtin id) (v::us)) (EP X pins σ Q) X.xe s
section
variable {X:Cx}{a b:Expr}{ta tb:TE}{pos:Pos}
theorem js {r:R2}(hr:IxR X r) (ha:PE X a ta) (hb:PE X b tb) (hs:Ui b):PE X (.Subscript a b pos) (tOp r ta tb):=by
 intro pins s σ H Q I h
 exact lV (UE ha hb I h λv u s2 x y H2 I2 rx ry q=>hr a b pins s2 σ H2 x y v u Q I2 rx ry q (hs _ _))
noncomputable def UV (K:ag):R2:=λx y H Q=>∃p xs i v,x = .ref p/\y = .int i/\SqL K H p xs/\atI xs i=some v/\Q v H
noncomputable def Wq (K:ag):R2:=λx y H Q=>∃p xs i v,x = .ref p/\y = .int i/\SqT K H p xs/\atI xs i=some v/\Q v H
theorem VS:IxR X (UV X.K):=by
 intro value slice pins s σ H x y v u Q I rx ry h hs
 obtain ⟨p,xs,i,z,rfl,rfl,hq,he,q⟩:=h
 cases rx
 obtain ⟨t,rfl⟩:=ry
 obtain ⟨its,r,pl,hz⟩:=I.list hq
 obtain ⟨j,h1,h2,h3,h4,h5⟩:=Z3 he
 obtain ⟨w,ew,rw'⟩:=r.get h2
 have hl:=r.length
 have hn:=gZ
 have fin:EP X pins σ Q w s:=⟨z,H,I,rw',q⟩
 by_cases h0:0<=i
 ·have hj:i.toNat=j:=by
   rw [pG h0 h5] at h1
   exact aO h1
  exact item_listR pl.isList h0 ∅ (by rw [hj];simpa using ew) fin hs
 ·have hj:(i+(its.toArray.size:Int)).toNat=j:=by
   rw [om ∅ h4] at h1
   rw [av,<- hl]
   exact aO h1
  exact lW (x:=w) pl.isList.typeIs slot_list_getitem.lookup
   (wpAny_getItem_list_neg (Q:=λr s'=>r=w/\EP X pins σ Q r s') pl.isList ∅ (by rw [av] <;> omega) ∅ (by rw [hj];simpa using ew) ⟨rfl,fin⟩) hs
theorem UG:IxR X (Wq X.K):=by
 intro value slice pins s σ H x y v u Q I rx ry h hs
 obtain ⟨p,xs,i,z,rfl,rfl,hq,he,q⟩:=h
 cases rx
 obtain ⟨t,rfl⟩:=ry
 obtain ⟨its,r,pl,hz⟩:=I.tuple hq
 obtain ⟨j,h1,h2,h3,h4,h5⟩:=Z3 he
 obtain ⟨w,ew,rw'⟩:=r.get h2
 have hl:=r.length
 have hn:=gZ
 have fin:EP X pins σ Q w s:=⟨z,H,I,rw',q⟩
 exact lW (x:=w) pl.typeIs slot_tuple_getitem.lookup
  (getItem_tuple (j:=j) (Q:=λr s'=>r=w/\EP X pins σ Q r s') pl ∅ ∅ (by rw [av,<- hl];exact h1) (by simpa using ew) ⟨rfl,fin⟩) hs
theorem Xn (its:List af) (n j:Nat) (u:af):aT (·.setIfInBounds j u) { cls:=.type "list",data:=.seq its.toArray n }={ cls:=.type "list",data:=.seq (its.set j u).toArray n }:=by
 simp [aT]
theorem Inv.lst {pins:List (Addr×Obj)}{σ:St}{H:Hp}{s:Shared}{p:Addr}{xs:List V}(I:Inv X pins σ H s) (h:H p=some (.lst xs)) :
  ∃(its:List af) (n:Nat),jz xs its/\s.heap.get? p=some { cls:=.type "list",data:=.seq its.toArray n }/\xs.length<=sizeLine:=by
 obtain ⟨z,its,n,r,e⟩:=I.hok p _ h
 exact ⟨its,n,r,e,z⟩
theorem Inv.lstUpd {pins:List (Addr×Obj)}{σ:St}{H:Hp}{s:Shared}{p:Addr}{xs ys:List V}{its its':List af}{n n':Nat}{f:Obj->Obj}(I:Inv X pins σ H s) (h:H p=some (.lst xs))
  (ho:s.heap.get? p=some { cls:=.type "list",data:=.seq its.toArray n }) (hf:f { cls:=.type "list",data:=.seq its.toArray n }={ cls:=.type "list",data:=.seq its'.toArray n' }) (r:jz ys its') (hz:ys.length<=sizeLine) (t:Nat) :
  Inv X pins σ (upd H p (.lst ys)) { s with heap:=s.heap.update p f,toks:=t }:=by
 have e:(s.heap.update p f).get? p=some { cls:=.type "list",data:=.seq its'.toArray n' }:=by
  rw [dr f ho (by rw [hf] <;> rfl),hf]
 refine I.write (x:=p) (e:=p) (by rw [h];trivial) (.inl rfl) (λb u hb q=>(cC _ _ (cq hb)).trans q) ⟨_,e⟩ ?_
 exact ⟨hz,its',n',r,e⟩
noncomputable def G6:V->V->V->Hp->(Hp->Prop)->Prop:=λo i v H Q=>∃p xs k j,o = .ref p/\i = .int k/\H p=some (.lst xs)/\ixN xs.length k=some j/\Q (upd H p (.lst (xs.set j v)))
theorem ub:WJ X G6:=by
 intro pins s σ H o i v ov iv u Q I ro ri rv h
 obtain ⟨p,xs,k,j,rfl,rfl,hp,hj,q⟩:=h
 cases ro
 obtain ⟨t,rfl⟩:=ri
 obtain ⟨its,n,r,ho,hz⟩:=I.lst hp
 obtain ⟨h1,h2,h3,h4⟩:=XJ hj
 have hl:=r.length
 have hn:=gZ
 have I':Inv X pins σ (upd H p (.lst (xs.set j v))) { s with heap:=s.heap.update p (aT (·.setIfInBounds j u)) } :=
  I.lstUpd hp ho (Xn its n j u) (r.set rv j) (by rw [il];exact hz) s.toks
 by_cases h0:0<=k
 ·have hk:k.toNat=j:=by
   rw [pG h0 h4] at h1
   exact aO h1
  exact PySem.W.ki_setAt ho h0 ∅ (by rw [av,<- hl];exact h4) (by rw [hk];exact ⟨_,I',q⟩)
 ·have hk:(k+(its.toArray.size:Int)).toNat=j:=by
   rw [om ∅ h3] at h1
   rw [av,<- hl]
   exact aO h1
  exact PySem.W.ki_setBack ho ∅ (by rw [av,<- hl];exact h3) ∅ (by rw [hk];exact ⟨_,I',q⟩)
theorem Jm (lo hi:Option Int) (n:Nat):(fj lo hi none n).1=((HT.sIx n 0 lo:Nat):Int)/\(fj lo hi none n).2.1=((HT.sIx n n hi:Nat):Int)/\(fj lo hi none n).2.2=1:=by
 refine ⟨?_,?_,rfl⟩
 ·cases lo with
  | none=>simp [fj,HT.sIx]
  | some i =>
   simp only [fj,HT.sIx,oU,show (1:Int) > 0 by decide,if_true]
   by_cases h:i<0
   ·simp only [h,if_true] <;> omega
   ·simp only [h,if_false] <;> omega
 ·cases hi with
  | none=>simp [fj,HT.sIx]
  | some i =>
   simp only [fj,HT.sIx,oU,show (1:Int) > 0 by decide,if_true]
   by_cases h:i<0
   ·simp only [h,if_true] <;> omega
   ·simp only [h,if_false] <;> omega
theorem kO (its:List af) (lo hi:Option Int):slicePick its.toArray lo hi none=((its.drop (HT.sIx its.length 0 lo)).take (HT.sIx its.length its.length hi-HT.sIx its.length 0 lo)).toArray:=by
 obtain ⟨h1,h2,h3⟩:=Jm lo hi its.toArray.size
 unfold slicePick
 rw [h1,h2,h3]
 simp only [sliceRange_one,pick_run,av] <;> rfl
noncomputable def rSlL (K:ag):V->Option Int->Option Int->Hp->VK->Prop:=λx lo hi H Q=>∃a xs,x = .ref a/\SqL K H a xs/\∀p,H p=none->Q (.ref p) (upd H p (.lst (uV xs lo hi)))
theorem VB:SlR X (rSlL X.K):=by
 intro pins s σ H x v vl vu lo hi sl Q I rx hs pl pu h
 obtain ⟨a,xs,rfl,hx,q⟩:=h
 cases rx
 obtain ⟨its,r,ht,hz⟩:=I.list hx
 have hlen:=r.length
 refine ⟨"list",_,slot_list_getitem.lookup,ht.isList.typeIs,?_⟩
 refine lx ht.isList hs pl pu .none (by simp) ?_ (by rw [av] <;> omega)
 rw [kO,<- hlen]
 refine ⟨.ref s.heap.objs.size,_,I.laid (t':=s.toks) (o:=.lst (uV xs lo hi)) (λb ob q=>ai _ q) (ao _) ?_,rfl,q _ (I.hok.fresh (ao _))⟩
 exact ⟨aG (uH xs lo hi) hz,_,0,(r.drop (HT.sIx xs.length 0 lo)).take (HT.sIx xs.length xs.length hi-HT.sIx xs.length 0 lo),az _ rfl⟩
noncomputable def vJ:V->Bool
 | .non=>true
 | .bl _=>true
 | .int _=>true
 | .str _=>true
 | _=>false
noncomputable def eqV:V->V->Bool
 | .non,.non=>true
 | .bl a,.bl b=>a == b
 | .bl a,.int b=>(if a then 1 else 0) == b
 | .int a,.bl b=>a == (if b then 1 else 0)
 | .int a,.int b=>a == b
 | .str a,.str b=>a == b
 | _,_=>false
theorem Ww {A:bb}{s:Shared}{y x:V}{u v:af}(ry:jA y u) (rx:jA x v) (fy:vJ y=true) (fx:vJ x=true):SeqAt.EqAt A s u v (eqV y x):=by
 cases y with
 | non =>
  cases ry
  cases x with
  | non=>cases rx;exact SeqAt.EqAt.same _
  | bl b=>cases rx;exact SeqAt.EqAt.none_bool b
  | int b=>obtain ⟨t,rfl⟩:=rx;exact SeqAt.EqAt.none_int b t
  | str b=>obtain ⟨t,rfl⟩:=rx;exact SeqAt.EqAt.none_str b t
  | _=>exact absurd (show false=true from fx) ar
 | bl a =>
  cases ry
  cases x with
  | non=>cases rx;exact SeqAt.EqAt.bool_none a
  | bl b=>cases rx;exact SeqAt.EqAt.bool_bool a b
  | int b=>obtain ⟨t,rfl⟩:=rx;exact SeqAt.EqAt.bool_int a b t
  | str b=>obtain ⟨t,rfl⟩:=rx;exact SeqAt.EqAt.bool_str a b t
  | _=>exact absurd (show false=true from fx) ar
 | int a =>
  obtain ⟨t',rfl⟩:=ry
  cases x with
  | non=>cases rx;exact SeqAt.EqAt.int_none a t'
  | bl b=>cases rx;exact SeqAt.EqAt.int_bool a t' b
  | int b=>obtain ⟨t,rfl⟩:=rx;exact SeqAt.EqAt.int_int a t' b t
  | str b=>obtain ⟨t,rfl⟩:=rx;exact nh a t' b t
  | _=>exact absurd (show false=true from fx) ar
 | str a =>
  obtain ⟨t',rfl⟩:=ry
  cases x with
  | non=>cases rx;exact SeqAt.EqAt.str_none a t'
  | bl b=>cases rx;exact SeqAt.EqAt.str_bool a t' b
  | int b=>obtain ⟨t,rfl⟩:=rx;exact ni a t' b t
  | str b=>obtain ⟨t,rfl⟩:=rx;exact SeqAt.EqAt.str_str a t' b t
  | _=>exact absurd (show false=true from fx) ar
 | _=>exact absurd (show false=true from fy) ar
noncomputable def eqU (x:V) (u:af):Bool:=match u with
 | .none=>eqV .non x
 | .bool b=>eqV (.bl b) x
 | .int i _=>eqV (.int i) x
 | .str z _=>eqV (.str z) x
 | _=>false
theorem V2 {x y:V}{u:af}(r:jA y u) (f:vJ y=true):eqU x u=eqV y x:=by
 cases y with
 | non=>cases r;rfl
 | bl b=>cases r;rfl
 | int i=>obtain ⟨t,rfl⟩:=r;rfl
 | str z=>obtain ⟨t,rfl⟩:=r;rfl
 | _=>exact absurd (show false=true from f) ar
theorem vV {x:V}:∀{xs:List V}{us:List af},jz xs us->xs.all vJ=true->us.any (eqU x)=xs.any λy=>eqV y x
 | _,_,.nil,_=>rfl
 | y::xs,u::us,.cons r t,f=>by
  rw [n5,aY] at f
  rw [eX,eX,V2 r f.1,vV t f.2]
theorem yv {A:bb}{s:Shared}{x:V}{v:af}(rx:jA x v) (fx:vJ x=true):∀{xs:List V}{us:List af},jz xs us->xs.all vJ=true->∀u∈us,SeqAt.EqAt A s u v (eqU x u)
 | _,_,.nil,_=>λu hu=>by cases hu
 | y::xs,u::us,.cons r t,f=>λu' hu=>by
  rw [n5,aY] at f
  rcases List.mem_cons.mp hu with rfl | hu
  ·rw [V2 r f.1];exact Ww r rx f.1 fx
  ·exact yv rx fx t f.2 u' hu
noncomputable def inV (x:V) (xs:List V):Bool:=xs.any λy=>eqV y x
noncomputable def rIn (K:ag) (neg:Bool):R2:=λx y H Q=>∃p xs,y = .ref p/\(SqL K H p xs\/SqT K H p xs)/\vJ x=true/\xs.all vJ=true/\Q (.bl (if neg then !inV x xs else inV x xs)) H
theorem Y7:OpR X (c5 .In) (rIn X.K false):=by
 intro pins s σ H x y v u Q I rx ry h
 obtain ⟨p,xs,rfl,hq,fx,fs,q⟩:=h
 cases ry
 rcases hq with hq | hq
 ·obtain ⟨its,r,pl,hz⟩:=I.list hq
  refine SeqAt.in_listAt (eqU x) pl.isList (λw hw=>yv rx fx r fs w (by simpa using hw)) ⟨.bl _,H,I,rfl,?_⟩
  rw [show its.toArray.any (eqU x)=its.any (eqU x) by simp,vV r fs]
  exact q
 ·obtain ⟨its,r,pl,hz⟩:=I.tuple hq
  refine SeqAt.in_tupleAt (eqU x) pl (λw hw=>yv rx fx r fs w (by simpa using hw)) ⟨.bl _,H,I,rfl,?_⟩
  rw [show its.toArray.any (eqU x)=its.any (eqU x) by simp,vV r fs]
  exact q
theorem Jh:OpR X (c5 .NotIn) (rIn X.K true):=by
 intro pins s σ H x y v u Q I rx ry h
 obtain ⟨p,xs,rfl,hq,fx,fs,q⟩:=h
 cases ry
 rcases hq with hq | hq
 ·obtain ⟨its,r,pl,hz⟩:=I.list hq
  refine SeqAt.notIn_listAt (eqU x) pl.isList (λw hw=>yv rx fx r fs w (by simpa using hw)) ⟨.bl _,H,I,rfl,?_⟩
  rw [show its.toArray.any (eqU x)=its.any (eqU x) by simp,vV r fs]
  exact q
 ·obtain ⟨its,r,pl,hz⟩:=I.tuple hq
  refine SeqAt.notIn_tupleAt (eqU x) pl (λw hw=>yv rx fx r fs w (by simpa using hw)) ⟨.bl _,H,I,rfl,?_⟩
  rw [show its.toArray.any (eqU x)=its.any (eqU x) by simp,vV r fs]
  exact q
theorem Ju:xb X (.builtin "len") (λxs H Q=>∃p ys,xs=[.ref p]/\(SqL X.K H p ys\/SqT X.K H p ys)/\Q (.int ys.length) H):=by
 intro pins s σ H xs us Q I r h
 obtain ⟨p,ys,rfl,hq,q⟩:=h
 obtain ⟨u,rfl,rx⟩:=yW r
 cases rx
 have hn:=gZ
 rcases hq with hq | hq
 ·obtain ⟨its,r',pl,hz⟩:=I.list hq
  have hlen:=r'.length
  exact Calls.call_len_list pl.isList (by simp only [av] <;> omega) ⟨.int ys.length,H,I.tok _,⟨s.toks+1,by rw [av,hlen]⟩,q⟩
 ·obtain ⟨its,r',pl,hz⟩:=I.tuple hq
  have hlen:=r'.length
  exact len_tuple pl (by simp only [av] <;> omega) ⟨.int ys.length,H,I.tok _,⟨s.toks+1,by rw [av,hlen]⟩,q⟩
theorem Jl:xb X (.type "list") (λxs H Q=>∃p ys,xs=[.ref p]/\(SqL X.K H p ys\/SqT X.K H p ys)/\∀l,H l=none->Q (.ref l) (upd H l (.lst ys))):=by
 intro pins s σ H xs us Q I r h
 obtain ⟨p,ys,rfl,hq,q⟩:=h
 obtain ⟨u,rfl,rx⟩:=yW r
 cases rx
 have fin:∀(its:List af),jz ys its->ys.length<=sizeLine->∀(h':Heap) (c':Nat),(∀b o',s.heap.get? b=some o'->h'.get? b=some o') ->
   h'.get? s.heap.objs.size=some { cls:=.type "list",dict:=none,data:=.seq its.toArray c',slots:=#[] }->EP X pins σ Q (.ref s.heap.objs.size) { s with heap:=h' }:=λits r' hz h' c' kp e =>
  ⟨.ref s.heap.objs.size,_,I.laid (t':=s.toks) kp (ao _) (show jW X.prog X.w _ h' _ (.lst ys) from ⟨hz,its,c',r',e⟩),rfl,q _ (I.hok.fresh (ao _))⟩
 rcases hq with hq | hq
 ·obtain ⟨its,r',pl,hz⟩:=I.list hq
  have hlen:=r'.length
  obtain ⟨o,ho,hc,n,hd⟩:=pl.isList
  exact si p (.inl rfl) ho hc hd (λh' c' kp e=>fin its r' hz h' c' kp e) (by simp only [av] <;> omega)
 ·obtain ⟨its,r',pl,hz⟩:=I.tuple hq
  have hlen:=r'.length
  obtain ⟨o,ho,hc,n,hd⟩:=pl
  exact si p (.inr rfl) ho hc hd (λh' c' kp e=>fin its r' hz h' c' kp e) (by simp only [av] <;> omega)
theorem kQ:xb X (.type "tuple") (λxs H Q=>∃p ys,xs=[.ref p]/\((SqL X.K H p ys/\∀l,H l=none->Q (.ref l) (upd H l (.tup ys)))\/(SqT X.K H p ys/\Q (.ref p) H))):=by
 intro pins s σ H xs us Q I r h
 obtain ⟨p,ys,rfl,h⟩:=h
 obtain ⟨u,rfl,rx⟩:=yW r
 cases rx
 rcases h with ⟨hq,q⟩ | ⟨hq,q⟩
 ·obtain ⟨its,r',pl,hz⟩:=I.list hq
  have hlen:=r'.length
  refine call_tuple_list pl.isList (λh' kp=>?_) (by simp only [av] <;> omega)
  have I1:Inv X pins σ H { s with heap:=h' }:=I.kept (t':=s.toks) kp
  have I2:Inv X pins σ (upd H h'.objs.size (.tup ys)) { s with heap:=h'.push { cls:=.type "tuple",data:=.seq its.toArray } } :=
   I1.laid (t':=s.toks) (λb o e=>ai _ e) (ao _) (show jW X.prog X.w _ _ _ (.tup ys) from ⟨hz,its,r',sy _ _⟩)
  exact ⟨.ref h'.objs.size,_,I2,rfl,q _ (I1.hok.fresh (ao _))⟩
 ·obtain ⟨its,r',pl,hz⟩:=I.tuple hq
  exact call_tuple_same pl ⟨.ref p,H,I,rfl,q⟩
noncomputable def tyV (K:ag) (T:String) (x:V) (H:Hp):Prop:=match x with
 | .str _=>T = "str"
 | .int _=>T = "int"
 | .ref p=>(T = "list" /\ ∃xs,SqL K H p xs)\/(T = "tuple" /\ ∃o,K.lookup p=some o/\o.cls = .type "tuple" /\ o.dict=none) \/
   (T = "dict" /\ ((∃kvs,H p=some (.dK kvs))\/∃kvs,H p=some (.dT kvs)))\/(T = "set" /\ ∃S n,H p=some (.set S n))
 | _=>False
theorem Yn {pins:List (Addr×Obj)}{σ:St}{H:Hp}{s:Shared}{T:String}{x:V}{v:af}(I:Inv X pins σ H s) (r:jA x v) (ty:tyV X.K T x H) :
  s.TypeIs v T/\∀a,v = .ref a->∃ob,s.heap.get? a=some ob/\ob.dict=none:=by
 cases x with
 | str z =>
  obtain ⟨t,rfl⟩:=r
  cases (show T = "str" from ty)
  exact ⟨typeIs_str s z t,λ_ e=>nomatch e⟩
 | int i =>
  obtain ⟨t,rfl⟩:=r
  cases (show T = "int" from ty)
  exact ⟨typeIs_int s i t,λ_ e=>nomatch e⟩
 | ref p =>
  cases r
  rcases ty with ⟨rfl,xs,hq⟩ | ⟨rfl,o,hk,hc,hd⟩ | ⟨rfl,hk⟩ | ⟨rfl,S,n,hk⟩
  ·obtain ⟨its,_,pl,_⟩:=I.list hq
   refine ⟨pl.isList.typeIs,λa e=>?_⟩
   cases e
   obtain ⟨o,n,e,c,hd,_⟩:=pl
   exact ⟨o,e,hd⟩
  ·refine ⟨⟨o,I.kIn p o hk,hc⟩,λa e=>?_⟩
   cases e
   exact ⟨o,I.kIn _ o hk,hd⟩
  ·have z:∃o,s.heap.get? p=some o/\o.ExactDict:=by
    rcases hk with ⟨kvs,hk⟩ | ⟨kvs,hk⟩
    ·obtain ⟨_,_,_,_,o,_,_,e,ex,_⟩:=I.hok p _ hk
     exact ⟨o,e,ex⟩
    ·obtain ⟨_,_,_,_,o,_,_,e,ex,_⟩:=I.hok p _ hk
     exact ⟨o,e,ex⟩
   obtain ⟨o,e,ex⟩:=z
   refine ⟨⟨o,e,ex.1⟩,λa e2=>?_⟩
   cases e2
   exact ⟨o,e,ex.2.1⟩
  ·obtain ⟨o,_,_,_,e,ex,_⟩:=I.hok p _ hk
   refine ⟨⟨o,e,ex.1⟩,λa e2=>?_⟩
   cases e2
   exact ⟨o,e,ex.2.1⟩
 | _=>exact bA ty
noncomputable def Gs (K:ag) (T:String) (r:V->List V->Hp->VK->Prop) (to:TE):TE:=λσ H Q=>to σ H λx H1=>tyV K T x H1/\r x [] H1 Q
noncomputable def tBM (K:ag) (T:String) (r:V->List V->Hp->VK->Prop) (to:TE) (t:TA):TE:=λσ H Q=>to σ H λx H1=>tyV K T x H1/\t σ H1 λxs H2=>r x xs H2 Q
variable {o e:Expr}{es:List Expr}{to:TE}{t:TA}{name:Str}{apos cpos:Pos}{T id:String}{r:V->List V->Hp->VK->Prop}
theorem YO (pa:nB T) (slot:Slot T name id) (hty:oV (.builtin id)=pure (.type "method_descriptor")) (hm:MtR X id r) (ho:PE X o to)
  (hbase:dA o name X.env (eval o X.env)=eval o X.env:=by rfl) (hline:(apos.endLine == cpos.line)=true:=by rfl):PE X (.Call (.Attribute o name apos) [] [] cpos) (Gs X.K T r to):=by
 intro pins s σ H Q I h
 refine wpAny_Call_method0_late hbase hline (thn (ho pins s σ H _ I h) λv s1 ⟨x,H1,I1,r1,ty,q1⟩=>?_)
 obtain ⟨h1,h2⟩:=Yn I1 r1 ty
 exact ⟨T,id,pa,slot,hty,h1,h2,fH rfl (PySem.evalArgs_none (hm pins s1 σ H1 x [] v [] Q I1 r1 .nil q1))⟩
theorem WU (pa:nB T) (slot:Slot T name id) (hty:oV (.builtin id)=pure (.type "method_descriptor")) (hm:MtR X id r) (ho:PE X o to) (ha:PA X (e::es) t)
  (hbase:dA o name X.env (eval o X.env)=eval o X.env:=by rfl)
  (hfew:((cF cpos (aK (e::es) X.env)).all (λx=>!x.1) && (iM cpos (eK [] X.env)).all (λx=>x.1.isSome)
   && decide ((e::es).length+([]:List lS).length+(if ([]:List lS).isEmpty then 0 else 1)<30))=true:=by rfl)
  (hline:(apos.endLine == cpos.line)=true:=by rfl) (hs:aK (e::es) X.env=(false,eval e X.env)::aK es X.env:=by rfl) (hplain:(cF cpos (aK es X.env)).any (·.1)=false:=by rfl) :
  PE X (.Call (.Attribute o name apos) (e::es) [] cpos) (tBM X.K T r to t):=by
 intro pins s σ H Q I h
 refine wpAny_Call_method_late hbase hfew hline rfl (thn (ho pins s σ H _ I h) λv s1 ⟨x,H1,I1,r1,ty,q1⟩=>?_)
 obtain ⟨h1,h2⟩:=Yn I1 r1 ty
 refine ⟨T,id,pa,slot,hty,h1,h2,?_⟩
 have hA:=ha cpos pins s1 σ H1 _ I1 q1
 rw [hs] at hA ⊢
 refine fH (by show (false || (cF cpos (aK es X.env)).any (·.1))=false;rw [hplain] <;> rfl) (ib ?_)
 exact thn hA λus s2 ⟨vs,H2,I2,r2,q2⟩=>hm pins s2 σ H2 x vs v us Q I2 r1 r2 q2
end
end L2
namespace L2
noncomputable def MtM (X:Cx) (id:String) (r:V->List V->Hp->VK->Prop):Prop :=
 ∀(pins:List (Addr×Obj)) (s:Shared) (σ:St) (H:Hp) (x:V) (xs:List V) (v:af) (us:List af) (Q:VK),Inv X pins σ H s->jA x v->jz xs us->r x xs H Q ->
  au (aC X.prog X.w) X.A (call (.builtin id) (v::us)) (EP X pins σ Q) X.xe s
theorem jz.one:∀{x:V}{us:List af},jz [x] us->∃u,us=[u]/\jA x u
 | _,_,.cons r .nil=>⟨_,rfl,r⟩
theorem jz.zero:∀{us:List af},jz [] us->us=[]
 | _,.nil=>rfl
theorem jz.dropLast {xs:List V}{us:List af}(h:jz xs us):jz xs.dropLast us.dropLast:=by
 induction h with
 | nil=>exact .nil
 | cons r t ih =>
  cases t with
  | nil=>exact .nil
  | cons q t'=>exact .cons r ih
theorem jz.reverse {xs:List V}{us:List af}(h:jz xs us):jz xs.reverse us.reverse:=by
 induction h with
 | nil=>exact .nil
 | cons r t ih=>rw [lg,lg];exact jz.append ih (.cons r .nil)
theorem Xg {α:Type}(l:List α):l.eraseIdx (l.length-1)=l.dropLast:=by
 induction l with
 | nil=>rfl
 | cons a r ih =>
  cases r with
  | nil=>rfl
  | cons b r =>
   have e:(a::b::r).length-1=((b::r).length-1)+1:=by
    have h1:(a::b::r).length=r.length+2:=rfl
    have h2:(b::r).length=r.length+1:=rfl
    omega
   rw [e,List.eraseIdx_cons_succ,ih]
   all_goals rfl
section
variable {X:Cx}{pins:List (Addr×Obj)}{σ:St}{H:Hp}{s:Shared}{l b:Addr}{xs ys zs:List V}
theorem Inv.lset {its its':List af}{n:Nat}{f:Array af->Array af}{t':Nat}(I:Inv X pins σ H s) (hH:H l=some (.lst xs))
  (e:s.heap.get? l=some { cls:=.type "list",data:=.seq its.toArray n }) (hf:f its.toArray=its'.toArray) (hv:jz ys its') (hz:ys.length<=sizeLine) :
  Inv X pins σ (upd H l (.lst ys)) { s with heap:=s.heap.update l (aT f),toks:=t' }:=by
 have q:=PySem.IsL.update e f
 rw [hf] at q
 refine I.write (x:=l) (e:=l) (by rw [hH];exact trivial) (.inl rfl) (λb' u hb hu=>(cC s.heap (aT f) (cq hb)).trans hu) ⟨_,q⟩ ?_
 exact ⟨hz,its',_,hv,q⟩
theorem Inv.lnew {its:List af}{t':Nat}(I:Inv X pins σ H s) (hv:jz ys its) (hz:ys.length<=sizeLine) :
  Inv X pins σ (upd H s.heap.objs.size (.lst ys)) { s with heap:=s.heap.push { cls:=.type "list",data:=.seq its.toArray },toks:=t' } :=
 I.laid (λ_ _ q=>ai _ q) (ao _) ⟨hz,its,0,hv,az _ rfl⟩
theorem Inv.fresh (I:Inv X pins σ H s):H s.heap.objs.size=none:=I.hok.fresh (ao _)
theorem Inv.lstM (I:Inv X pins σ H s) (hH:H l=some (.lst xs)):xs.length<=sizeLine/\∃(its:List af) (n:Nat),jz xs its/\xs.length=its.length/\s.heap.get? l=some { cls:=.type "list",data:=.seq its.toArray n }:=by
 obtain ⟨z,its,n,r,e⟩:=I.hok l _ hH
 exact ⟨z,its,n,r,r.length,e⟩
theorem Yl {n:Nat}(h:n<=sizeLine):eY n=false:=by
 unfold eY
 exact decide_eq_false ∅
end
section
variable {X:Cx}
noncomputable def VT:V->List V->Hp->VK->Prop:=λx vs H Q=>∃l xs y,x = .ref l/\vs=[y]/\H l=some (.lst xs)/\xs.length<sizeLine/\Q .non (upd H l (.lst (xs++[y])))
theorem qA:MtM X "list.append" VT:=by
 intro pins s σ H x vs v us Q I rx rv h
 obtain ⟨l,xs,y,rfl,rfl,hH,hz,q⟩:=h
 cases rx
 obtain ⟨u,rfl,ru⟩:=rv.one
 obtain ⟨z,its,n,r,hl,e⟩:=I.lstM hH
 refine fg F.slot_list_append ⟨_,e,rfl⟩ F.entry_list_append (F.args_list_append_2 _ _) (PySem.list_append l its.toArray n u (by rw [av];omega)) ⟨e,?_⟩
 refine ⟨.non,_,I.lset (its':=its++[u]) hH e (by simp) (r.append (.cons ru .nil)) ?_,rfl,q⟩
 rw [aq,b9]
 omega
noncomputable def VN:V->List V->Hp->VK->Prop:=λx vs H Q=>∃l b xs zs,x = .ref l/\vs=[.ref b]/\H l=some (.lst xs)/\H b=some (.lst zs)/\xs.length+zs.length<=sizeLine/\Q .non (upd H l (.lst (xs++zs)))
theorem WH:MtM X "list.extend" VN:=by
 intro pins s σ H x vs v us Q I rx rv h
 obtain ⟨l,b,xs,zs,rfl,rfl,hH,hB,hz,q⟩:=h
 cases rx
 obtain ⟨u,rfl,ru⟩:=rv.one
 cases ru
 obtain ⟨z,its,n,r,hl,e⟩:=I.lstM hH
 obtain ⟨z2,its2,n2,r2,hl2,e2⟩:=I.lstM hB
 have hsz:its.toArray.size+its2.toArray.size<=sizeLine:=by rw [av,av];omega
 have hlong:¬(!its.toArray.isEmpty && eY (its.toArray.size+its2.toArray.size))=true:=by
  rw [Yl hsz,Bool.and_false]
  exact ar
 refine fg F.slot_list_extend ⟨_,e,rfl⟩ F.entry_list_extend (F.args_list_extend_2 _ _)
  (AutoSeq1.list_extend_list_list_0 l its.toArray n b its2.toArray n2 hlong (by rw [av];omega) ∅) ⟨e,e2,?_⟩
 refine ⟨.non,_,I.lset (its':=its++its2) hH e (by simp) (r.append r2) ?_,rfl,q⟩
 rw [aq]
 omega
noncomputable def rPop:V->List V->Hp->VK->Prop:=λx vs H Q=>∃l xs y,x = .ref l/\vs=[]/\H l=some (.lst xs)/\xs[xs.length-1]? = some y/\Q y (upd H l (.lst xs.dropLast))
theorem W0:MtM X "list.pop" rPop:=by
 intro pins s σ H x vs v us Q I rx rv h
 obtain ⟨l,xs,y,rfl,rfl,hH,hy,q⟩:=h
 cases rx
 have hus:=rv.zero
 subst hus
 obtain ⟨z,its,n,r,hl,e⟩:=I.lstM hH
 obtain ⟨u,hu,ru⟩:=r.get hy
 have hy':its.toArray[its.toArray.size-1]? = some u:=by
  show its.toArray[its.length-1]? = some u
  rw [<- fS,<- hl]
  exact hu
 refine fg F.slot_list_pop ⟨_,e,rfl⟩ F.entry_list_pop (F.args_list_pop_1 _) (MeetsSeq.list_pop_last l its.toArray n u hy' (by rw [av];omega)) ⟨e,?_⟩
 refine ⟨y,_,I.lset (its':=its.dropLast) hH e ?_ r.dropLast ?_,ru,q⟩
 ·show its.toArray.eraseIdxIfInBounds (its.toArray.size-1)=its.dropLast.toArray
  rw [av,List.eraseIdxIfInBounds_toArray,Xg]
 ·rw [List.length_dropLast]
  omega
noncomputable def rCat:R2:=λx y H Q=>∃l b xs zs,x = .ref l/\y = .ref b/\H l=some (.lst xs)/\H b=some (.lst zs)/\xs.length+zs.length<=sizeLine/\∀p,H p=none->Q (.ref p) (upd H p (.lst (xs++zs)))
theorem Wr:OpR X (ia .Add) rCat:=by
 intro pins s σ H x y v u Q I rx ry h
 obtain ⟨l,b,xs,zs,rfl,rfl,hH,hB,hz,q⟩:=h
 cases rx
 cases ry
 obtain ⟨z,its,n,r,hl,e⟩:=I.lstM hH
 obtain ⟨z2,its2,n2,r2,hl2,e2⟩:=I.lstM hB
 refine PySem.P.add_list e e2 ?_ (by rw [av,av];omega)
 have ea:its.toArray++its2.toArray=(its++its2).toArray:=by simp
 rw [ea]
 exact ⟨.ref _,_,I.lnew (t':=s.toks) (r.append r2) (by rw [aq];omega),rfl,q _ I.fresh⟩
end
section
variable {prog:Program}{w:aU}{A:bb}{E:af->Shared->Prop}{s:Shared}
set_option maxRecDepth 100000 in
end
section
variable {X:Cx}
end
end L2
namespace Att
open PySem PySem.W PySem.Calls PyProof.Rows
theorem uT {P:pY}{h:Heap}:∀(ns:List Int) (vs:List af),WellAll P h vs (ns.map WData.int)->d6 vs ns:=by
 intro ns
 induction ns with
 | nil =>
  intro vs w
  rw [eR] at w
  cases w
  exact .nil
 | cons n ns ih =>
  intro vs w
  rw [aJ] at w
  cases w with
  | cons a b =>
   cases a
   exact .cons _ _ (ih _ b)
theorem Y3 {l:OpenLaw}{n:Nat}(hn:l.most=some n) {P:pY}{h:Heap}{args:List WData}{vals:List af}
  (hpre:l.row.toRowW.claim.pre args=true) (hwl:WellAll P h vals args) :
  ∃a vs ns,vals=[aQ a]/\args=[WData.list (ns.map WData.int)]/\h.get? a=some { cls:=.type "list",data:=.seq vs.toArray }/\d6 vs ns/\ns.length<=n:=by
 have hsh:WShape.hasAll [] args [.list .int]=true:=(pre_splitW hpre).1
 have hc:l.pre.holds [] { args:=args }=true:=(pre_splitW hpre).2
 obtain ⟨d,r,rfl,h1,h2⟩:=hasAllW_cons hsh
 obtain rfl:=hasAllW_nil h2
 obtain ⟨xs,rfl,h3⟩:=hasW_list h1
 obtain ⟨ns,rfl⟩:=items_int h3
 have hlen:ns.length<=n:=by
  unfold OpenLaw.pre at hc
  have h4:(WTm.not (.lt (.lit (.int (n:Int))) (.len (.arg 0)))).holds [] { args:=[.list (ns.map .int)] }=true:=by
   have h4:=(holds_andW hc).1
   rw [hn] at h4
   exact h4
  have h5:=condW_of h4 (w_not (w_lt w_lit (w_len_list (w_arg rfl))))
  rw [ah] at h5
  refine Nat.le_of_not_lt λq=>?_
  have q':(n:Int)<((ns.length:Nat):Int):=∅
  first
   | (rw [decide_eq_true q'] at h5;exact absurd h5 ⋯)
   | (simp at h5;omega)
 cases hwl with
 | cons w1 w2 =>
  cases w2
  cases w1 with
  | list ho hall=>exact ⟨_,_,ns,rfl,rfl,ho,uT ns _ hall,hlen⟩
theorem ZO (l:OpenLaw) (args:List WData):l.row.toRowW.claim.post args (.bool true) args=true :=
 postW_of (r:=l.row.toRowW) (X:=(true == true))
  (show WShape.has [] (.bool true) .bool=true by first | rfl | decide | simp [WShape.has,WShape.arms,WShape.armsAll])
  (show (WTm.eq .res (.lit (.bool true))).value [] { args:=args,res:=some (.bool true),after:=args }=some (.bool (true == true)) from w_eq_bool (w_res rfl) w_lit) rfl
theorem attach_call {l:OpenLaw}{n:Nat}{q:Program}{loose:List Str}{XP:(Str->Option af)->Heap->Prop}{YP:aU->Heap->Prop}{d:DefRec}
  (hn:l.most=some n) (hdf:d.params.defaults=[])
  (call:∀(w:aU) (s₀ s₁:Shared) (mg mb:Str->Option af) (fa:Addr) (o:Obj) (pm cd doc:af) (a:Addr) (vs:List af) (ns:List Int),
   Ground q loose [] XP w s₀ mg mb s₁.heap->YP w s₁.heap ->
   s₁.heap.get? fa=some o->o.data = .func (docDef d.name d.params d.body d.scope pm cd doc)->s₁.heap.CodeRec cd d.name->mg d.name=some (.ref fa) ->
   s₁.heap.get? a=some { cls:=.type "list",data:=.seq vs.toArray }->d6 vs ns->ns.length<=n->s₁.gens = #[] ->
   d5 (aC l.prog w) mT (.call (.ref fa) ⟨[.ref a],[]⟩) (λr s'=>r = .ok (.ret (.bool true))/\OldK s₁.heap s'.heap/\s'.os=s₁.os/\i5 s'.gens) s₁) :
  WalkO q loose XP YP l.row.toRowW d [] (λf vs=>PySem.call f vs):=by
 intro w s₀ s₁ mg mb G Y fa o pm cd doc dV kV ho hd hcd hD hmg hg args vals as hpre hlay hrd hwl hlo
 obtain rfl:dV = .none:=Dflts.none hD hdf
 obtain rfl:kV = .none:=Dflts.noKw hD
 obtain ⟨a,vs,ns,rfl,rfl,hobj,hints,hlen⟩:=Y3 hn hpre hwl
 refine enter_call (dz (call w s₀ s₁ mg mb fa o pm cd doc a vs ns G Y ho (fd_plain hd) hcd hmg hobj hints hlen hg) λr s' hq=>?_)
 obtain ⟨rfl,h2,h3,h4⟩:=hq
 exact ⟨.inl ⟨.bool true,.bool true,[],rfl,λ_=>rfl,.bool true,ZO l _,λ_=>⟨fI,λ_ hm=>(nomatch hm)⟩⟩,h2,h3,h4⟩
section
variable {prog:Program}{w:aU}{A:bb}{E:af->Shared->Prop}{s:Shared}{K:Frag}
noncomputable def ledger (h:Heap) (L d:Addr):List (Addr×Obj):=(aF h.objs.size).filterMap λa=>if a=L\/a=d then none else (h.get? a).map λo=>(a,o)
end
end Att
namespace L2
theorem ue:∀{vs:List af}{ns:List Int},d6 vs ns->jz (ns.map V.int) vs
 | _,_,.nil=>.nil
 | _,_,.cons n t h=>.cons ⟨t,rfl⟩ (ue h)
end L2
namespace L2
end L2
namespace L2
noncomputable def xX (s:Stmt) (j:Nat):Stmt:=match s with
 | .ClassDef _ _ _ body _ _ _ _ _ _ _=>body.getD j (.Pass ⟨0,0,0,0⟩)
 | _=>.Pass ⟨0,0,0,0⟩
noncomputable def qa (s:Stmt):Arguments:=match s with
 | .FunctionDef _ a _ _ _ _ _ _ _ _=>a
 | _=>{ posonlyargs:=[],args:=[],vararg:=none,kwonlyargs:=[],kw_defaults:=[],kwarg:=none,defaults:=[] }
noncomputable def jM (s:Stmt):List Stmt:=match s with
 | .FunctionDef _ _ b _ _ _ _ _ _ _=>b
 | _=>[]
noncomputable def j8 (s:Stmt):Scope:=match s with
 | .FunctionDef _ _ _ _ _ _ sc _ _ _=>sc
 | _=>{ kind:=.function,names:=[],isGenerator:=false,isCoroutine:=false }
noncomputable abbrev CX0:CXT:=λ_ _ _ _ _ _=>False
noncomputable abbrev E0:XK:=λ_ _ _=>False
theorem Ur {X:Cx}:Jy CX0 X E0:=λ_ _ _ _ _ _ _ h=>h.elim
structure Fun (K:ag) (x qual:Str) (st:Stmt) (f:Addr) (fd:FuncData):Prop where
 ex:∃(oc:af) (od:Option Addr) (kV doc pm:af) (an:Option Addr) (cdv ct:af) (osl:Array (Option af)),
  fd=bB x qual (qa st) (jM st) (j8 st) .none kV doc pm an cdv ct/\K.lookup f=some ⟨oc,od,.func fd,osl⟩/\cB K cdv qual=true
 kp:bR K (.ref f)=true
section
variable {P:Program}{w:aU}{K:ag}{mg:Str->Option af}{base:Heap}
theorem Fun.ok {x qual:Str}{st:Stmt}{f:Addr}{fd:FuncData}{N ps:List Str}{k:Nat}{sp:Sp}(F:Fun K x qual st f fd) (S:FnScope N ps (j8 st)) (len:∀vs H Q E,sp vs H Q E->vs.length=ps.length)
  (hbody:∀(cdv:af) (A:bb) (outer:List Env) (s:Shared) (H:Hp) (vs:List V) (Q:VK) (E:XK),Room k (A.deeper (lr qual (j8 st) s.heap.objs.size f cdv))->sp vs H Q E ->
   ∃t,PSs (vd CX0 P w K mg base N qual (j8 st) f cdv A outer s H E).nox (jM st) t/\t { nx:=λ_ H'=>Q .non H',rt:=Q } (start N vs) H):FnOk P w K mg base CX0 (k+1) f fd ps sp:=by
 obtain ⟨oc,od,kV,doc,pm,an,cdv,ct,osl,rfl,lk,hcd⟩:=F.ex
 refine Vf lk hcd S len λA outer s H vs Q E hr hsp=>?_
 obtain ⟨t,h,q⟩:=hbody cdv A outer s H vs Q E hr hsp
 exact ⟨t,h.nox,q⟩
theorem Fun.binds {x qual:Str}{st:Stmt}{f:Addr}{fd:FuncData}{ps:List Str}(F:Fun K x qual st f fd)
  (h:∀(kV doc pm:af) (an:Option Addr) (cdv ct:af) (us:List af),us.length=ps.length->cA (bB x qual (qa st) (jM st) (j8 st) .none kV doc pm an cdv ct) ⟨us,[]⟩=pure (ps.zip us)):yk K fd ps []:=by
 obtain ⟨oc,od,kV,doc,pm,an,cdv,ct,osl,rfl,lk,hcd⟩:=F.ex
 exact .all (h kV doc pm an cdv ct)
theorem vi {x qual:Str}{st:Stmt}{f:Addr}{oc:af}{od an:Option Addr}{osl:Array (Option af)}{kV doc pm cdv ct:af}(l:K.lookup f=some ⟨oc,od,.func (bB x qual (qa st) (jM st) (j8 st) .none kV doc pm an cdv ct),osl⟩)
  (c:cB K cdv qual=true) (k:bR K (.ref f)=true):Fun K x qual st f (bB x qual (qa st) (jM st) (j8 st) .none kV doc pm an cdv ct):=⟨⟨oc,od,kV,doc,pm,an,cdv,ct,osl,rfl,l,c⟩,k⟩
end
theorem jQ {A:bb}{k:Nat}(hr:Room k A):A.units+1<cLine:=bO (Nat.add_le_add_left (by decide:1<=64) _) hr.units
theorem jj {n:Nat}(h:n<=1000):n<sizeLine:=bO h ⋯
section
variable {X:Cx}
theorem pv (i:Nat) {x:Str}{pos:Pos}(hN:X.N[i]? = some x:=by rfl) (hv:Vis X.env.scope x:=by first | exact aP rfl | exact fW (aP rfl) | exact fW (fW rfl)) (hd:(x == ("__debug__" : Str))=false:=by decide)
  (hcd:(x == ("__classdict__" : Str))=false:=by decide):PE X (.Name x pos) (XC i):=WC hN hv hd hcd
end
theorem wH {A B:Prop}(h:B):if false=true then A else B:=by
 rw [if_neg ar]
 exact h
theorem yH {A B:Prop}(h:A):if true=true then A else B:=by
 rw [if_pos rfl]
 exact h
noncomputable def jn (H H':Hp):Prop:=∀b o,H b=some o->H' b=some o
theorem jn.refl (H:Hp):jn H H:=λ_ _ h=>h
theorem jn.trans {H H1 H2:Hp}(a:jn H H1) (b:jn H1 H2):jn H H2:=λc o h=>b c o (a c o h)
theorem jn.free {H H':Hp}(e:jn H H') {l:Addr}(h:H' l=Option.none):H l=Option.none:=by
 cases q:H l with
 | none=>rfl
 | some o =>
  rw [e l o q] at h
  cases h
end L2
section
namespace L2
theorem QA (env:Env) (f:Str×fF->List (Str×Addr)->Sem (ForInStep (List (Str×Addr))))
  (hf:∀n k r,f (n,k) r=if (k == b8)=true then (sG env n >>= λa=>pure (bS ((n,a)::r))) else pure (bS r)) :
  ∀(names:List (Str×fF)) (acc:List (Str×Addr)),(∀x∈names,x.2 = .free->∃c,env.cells.lookup x.1=some c) ->
  ∃cl,sQ names acc f=pure cl/\∀x,cl.lookup x=if (x,b8)∈names then env.cells.lookup x else acc.lookup x:=by
 intro names
 induction names with
 | nil=>intro acc _;exact ⟨acc,rfl,λx=>by rw [if_neg (by simp)]⟩
 | cons y r ih =>
  intro acc h
  obtain ⟨n,k⟩:=y
  have hr:∀x∈r,x.2 = .free->∃c,env.cells.lookup x.1=some c:=λx hx=>h x (aD _ hx)
  by_cases hk:k = .free
  ·subst hk
   obtain ⟨c,hc⟩:=h (n,.free) aH rfl
   obtain ⟨cl,e,p⟩:=ih ((n,c)::acc) hr
   refine ⟨cl,?_,λx=>?_⟩
   ·rw [ip,hf,if_pos (by rfl)]
    have e1:sG env n=pure c:=by unfold sG;rw [hc]
    rw [e1]
    exact e
   ·rw [p x]
    by_cases hx:x=n
    ·subst hx
     rw [if_pos (aH),cp,beq_self_eq_true]
     by_cases hm:(x,b8)∈r
     ·rw [if_pos hm]
     ·rw [if_neg hm];exact hc.symm
    ·have hb:(x == n)=false:=beq_eq_false_iff_ne.mpr hx
     rw [cp,hb]
     by_cases hm:(x,b8)∈r
     ·rw [if_pos hm,if_pos (aD _ hm)]
     ·rw [if_neg hm,if_neg (by
       intro z
       rcases List.mem_cons.mp z with z | z
       ·exact hx (congrArg Prod.fst z)
       ·exact hm z)]
  ·obtain ⟨cl,e,p⟩:=ih acc hr
   have hb:(k == b8)=false:=by simpa using hk
   refine ⟨cl,?_,λx=>?_⟩
   ·rw [ip,hf,hb,if_neg ar]
    exact e
   ·rw [p x]
    by_cases hm:(x,b8)∈r
    ·rw [if_pos hm,if_pos (aD _ hm)]
    ·rw [if_neg hm,if_neg (by
      intro z
      rcases List.mem_cons.mp z with z | z
      ·exact hk (congrArg sR z).symm
      ·exact hm z)]
theorem vf {scope:Scope}{env:Env}(h:∀x∈scope.names,x.2 = .free->∃c,env.cells.lookup x.1=some c) :
  ∃cl,nE scope env=pure cl/\∀x,cl.lookup x=if (x,b8)∈scope.names then env.cells.lookup x else none:=by
 have hh:=QA env (λ(x:Str×fF) r=>match x with | (n,k)=>if (k == b8)=true then (sG env n >>= λa=>pure (bS ((n,a)::r))) else pure (bS r)) (λ_ _ _=>rfl) scope.names [] h
 obtain ⟨cl,e,p⟩:=hh
 refine ⟨cl,?_,λx=>by rw [p x];rfl⟩
 unfold nE
 have e':sQ scope.names ([]:List (Str×Addr)) (λ(x:Str×fF) r=>match x with | (n,k)=>if (k == b8)=true then (sG env n >>= λa=>pure (bS ((n,a)::r))) else pure (bS r))=(pure cl:Sem _):=e
 show (sQ scope.names ([]:List (Str×Addr)) _ >>= λcs=>pure cs)=_
 first
  | (rw [e'];rfl)
  | (simp only [bind_pure];exact e')
structure CompSc (osc:Scope) (ON:List Str) (scope:Scope) (own:Nat) (N:List Str) (caps:List Nat):Prop where
 kind:scope.kind = .function
 nocell:∀y∈scope.names,y.2≠.cell
 loc:∀y∈scope.names,y.2 = .local->scope.names.lookup y.1=some .local
 fre:∀y∈scope.names,y.2 = .free->scope.names.lookup y.1=some .free/\(osc.names.lookup y.1=some .cell\/osc.names.lookup y.1=some .free)
 len:N.length=own+caps.length
 cap:∀p∈(N.drop own).zip caps,ON[p.2]? = some p.1/\(p.1,b8)∈scope.names
noncomputable def yZ (own:Nat) (caps:List Nat) (σ:St):St:=dh own none++caps.map λj=>(σ[j]?).getD none
noncomputable def Cx.block (X:Cx) (scope:Scope) (cl:List (Str×Addr)) (C:Addr) (N:List Str) (s:Shared) (H:Hp) (ex:List Addr):Cx :=
 { X with N:=N,s₀:=s,H₀:=H,env:=rG scope cl C X.env,outer:=X.stack,ex:=ex,fn:=λx=>decide (scope.names.lookup x=some .local),pn:=[],xe:=λ_ _=>False }
theorem y8 {env:Env}:∀{names:List (Str×fF)}{x:Str}{k:fF},
  (names.map λ(n,k)=>if (k == b8 && env.scope.kind == .function && env.kindOf n == some .cell) then (n,i7) else (n,k)).lookup x=some k ->
  ∃k',names.lookup x=some k'/\(k'=k\/(k' = .free/\k = .cell))
 | [],_,_,h=>by simp at h
 | (n,k0)::r,x,k,h=>by
  have ih:=@y8 env r x k
  have h':dN x ((if (k0 == b8 && env.scope.kind == .function && env.kindOf n == some .cell)=true then (n,i7) else (n,k0))::r.map λ(n,k)=>if (k == b8 && env.scope.kind == .function && env.kindOf n == some .cell) then (n,i7) else (n,k))=some k:=h
  cases hx:x == n with
  | true =>
   by_cases hc:(k0 == b8 && env.scope.kind == .function && env.kindOf n == some .cell)=true
   ·rw [if_pos hc,cp,hx] at h'
    cases h'
    refine ⟨k0,by rw [cp,hx],.inr ⟨?_,rfl⟩⟩
    rw [aY,aY] at hc
    exact sx hc.1.1
   ·rw [if_neg hc,cp,hx] at h'
    cases h'
    exact ⟨k0,by rw [cp,hx],.inl rfl⟩
  | false =>
   have h2:dN x (r.map λ(n,k)=>if (k == b8 && env.scope.kind == .function && env.kindOf n == some .cell) then (n,i7) else (n,k))=some k:=by
    by_cases hc:(k0 == b8 && env.scope.kind == .function && env.kindOf n == some .cell)=true
    ·rw [if_pos hc,cp,hx] at h';exact h'
    ·rw [if_neg hc,cp,hx] at h';exact h'
   obtain ⟨k',e,d⟩:=ih h2
   exact ⟨k',by rw [cp,hx];exact e,d⟩
noncomputable def Jt (X:Cx) (ifs:List Expr) (t:TT):Prop :=
 ∀(pins:List (Addr×Obj)) (s:Shared) (σ:St) (H:Hp) (Q:Bool->Hp->Prop),Inv X pins σ H s->t σ H Q ->
  au (aC X.prog X.w) X.A (sQ ifs true λc r=>if r=true then do let ok <- isTrue c X.env (eval c X.env);pure (bS ok) else pure (bS r)) (TP X pins σ Q) X.xe s
noncomputable def WV:TT:=λ_ H Q=>Q true H
theorem jH {X:Cx}:Jt X [] WV:=λ_ _ _ H _ I h=>wpAny_tests_nil ⟨H,I,h⟩
theorem zO {X:Cx}{c:Expr}{t:TT}(h:PT X c t):Jt X [c] t:=λpins s σ H Q I hw=>wpAny_tests_one (h pins s σ H Q I hw)
section
variable {prog:Program}{w:aU}{A:bb}{R:nu->Shared->Prop}{s:Shared}
theorem JL {elt target iter:Expr}{ifs:List Expr}{scope:Scope}{pos:Pos}{it acc:af}{env:Env}(I:Nat->Shared->Prop)
  (turn:∀n s,I n s->au (aC prog w) A (eU it) (λr s₁=>match r with
   | none=>R (.ok .next) s₁
   | some v=>au (aC prog w) A (cU target it v) (λ_ s₂=>au (aC prog w) A (ij target env v) (λ_ s₃ =>
     au (aC prog w) A (sQ ifs true λc r=>if r=true then do let ok <- isTrue c env (eval c env);pure (bS ok) else pure (bS r)) (λok s₄ =>
      if ok=true then au (aC prog w) A (eval elt env) (λx s₅ =>
       au (aC prog w) A (call (.builtin "list.append") [acc,x]) (λ_ s₆=>∃m,m<n/\I m s₆) (λ_ _=>False) s₅) (λ_ _=>False) s₄
      else ∃m,m<n/\I m s₄) (λ_ _=>False) s₃) (λ_ _=>False) s₂) (λ_ _=>False) s₁) (λ_ _=>False) s)
  (n:Nat) (h:I n s) :
  d5 (aC prog w) A (.compLoop (.ListComp elt [⟨target,iter,ifs,0⟩] scope pos) 0 it acc env) R s:=by
 refine oo rfl I (λn s hI=>?_) n h
 show au _ A ((oq (.ListComp elt [⟨target,iter,ifs,0⟩] scope pos) 0 it acc env).onRaise (λx=>do iJ x env;md x)) _ _ s
 refine pH ?_
 rw [compTurn_list]
 refine aa (de (aa (b7 (turn n s hI) (λr s₁ h₁=>?_) λ_ _ h'=>h'.elim)))
 cases r with
 | none=>exact wpAny_pure h₁
 | some v =>
  refine aa (b7 h₁ (λ_ s₂ h₂=>?_) λ_ _ h'=>h'.elim)
  refine aa (b7 h₂ (λ_ s₃ h₃=>aa (b7 h₃ (λok s₄ h₄=>?_) λ_ _ h'=>h'.elim)) λ_ _ h'=>h'.elim)
  cases ok with
  | false=>exact wpAny_pure ⟨rfl,h₄⟩
  | true =>
   exact aa (aa (b7 h₄ (λx s₅ h₅=>aa (b7 h₅ (λ_ s₆ h₆=>wpAny_pure (wpAny_pure ⟨rfl,h₆⟩)) λ_ _ h'=>h'.elim)) λ_ _ h'=>h'.elim))
end
section
variable {X:Cx}{pos:Pos}
noncomputable def Ux (own:Nat) (caps:List Nat) (wi:TI) (g:TG) (ti:TT) (te:TE):TE:=λσ H Q=>wi σ H λJ H1=>∀acc,H1 acc=none ->
 ∃W:Nat->Nat->St->Hp->Prop,(∃m,W 0 m (yZ own caps σ) (upd H1 acc (.lst [])))/\∀i m σ' H',W i m σ' H' ->
  (J.stop i H'/\Q (.ref acc) H') \/
  (J.go i H'/\∃NX:St->Hp->Prop,(∀σ2 H2,NX σ2 H2->∃m',m'<m/\W (i+1) m' σ2 H2) /\
   ∀x H2,J.yld i H' x H2->g x σ' H2 λσ3 H3=>ti σ3 H3 λok H4=>if ok=true then te σ3 H4 λv H5=>∃ys,H5 acc=some (.lst ys)/\ys.length<sizeLine/\NX σ3 (upd H5 acc (.lst (ys++[v]))) else NX σ3 H4)
theorem Yd {osc:Scope}{ON N:List Str}{scope:Scope}{own:Nat}{caps:List Nat}{cl:List (Str×Addr)}{C:Addr}{pins:List (Addr×Obj)}{σ:St}{H:Hp}{s:Shared}{fp:List Addr}
  (S:CompSc osc ON scope own N caps) (hsc:X.env.scope=osc) (hcl:∀x,cl.lookup x=if (x,b8)∈scope.names then X.env.cells.lookup x else none)
  (I:Inv X pins σ H s) (hC:s.heap.objs.size<=C) (hf:∀b∈fp,uy X pins H b) (hfs:∀b∈fp,b<s.heap.objs.size):(X.block scope cl C N s H fp).Ok:=by
 have fromX:∀x c,cl.lookup x=some c->X.env.cells.lookup x=some c/\(x,b8)∈scope.names:=λx c e=>by
  rw [hcl x] at e
  by_cases hm:(x,b8)∈scope.names
  ·rw [if_pos hm] at e;exact ⟨e,hm⟩
  ·rw [if_neg hm] at e;cases e
 refine ⟨I.ok.mod,S.kind,I.ok.glob,I.ok.blt,hC,λx y c h1 h2=>I.ok.inj x y c (fromX x c h1).1 (fromX y c h2).1,λx hx=>?_,λx c h1 h2=>?_,I.ok.hd,I.ok.frames,.inl rfl,λb hb=>?_,I.bs,aG I.ok.bsz I.sz,λb o e hb=>?_,λb hb hb2=>?_,I.stack,I.stkFree⟩
 ·-- has
  have key:∀k,(k=i7\/k=b8)->(relabel scope X.env).names.lookup x=some k->∃c,cl.lookup x=some c:=λk hk e=>by
   obtain ⟨k',e',d⟩:=y8 (env:=X.env) e
   have hmem:=cY e'
   have hfree:k' = .free:=by
    rcases d with d | d
    ·subst d
     rcases hk with z | z
     ·exact absurd z (S.nocell _ hmem)
     ·exact z
    ·exact d.1
   subst hfree
   obtain ⟨_,hk2⟩:=S.fre _ hmem rfl
   obtain ⟨c,hc⟩:=I.ok.has x (by unfold rH;rw [hsc];exact hk2)
   exact ⟨c,by rw [hcl x,if_pos hmem];exact hc⟩
  rcases hx with z | z
  ·exact key _ (.inl rfl) z
  ·exact key _ (.inr rfl) z
 ·-- cab
  have h1':scope.names.lookup x=some .local:=of_decide_eq_true h1
  have hm:=(fromX x c h2).2
  have:=(S.fre _ hm rfl).1
  rw [h1'] at this
  cases this
 ·refine ⟨aB (aN (hfs b hb) hC),λx c e=>(hf b hb).2.2.2.2.1 x c (fromX x c e).1⟩
 ·rcases (hf b hb).2.2.2.1 with z | z
  ·exact I.ok.noex b o e z
  ·exact absurd (aN (ay e) (aG I.ok.bsz z)) (cu _)
 ·rcases List.mem_cons.mp (I.stkSub b hb2) with z | z
  ·exact (hf b hb).2.1 z
  ·exact (hf b hb).2.2.1 z
theorem uK {osc:Scope}{ON N:List Str}{scope:Scope}{own:Nat}{caps:List Nat}{cl:List (Str×Addr)}{C D:Addr}{pins:List (Addr×Obj)}{σ:St}{H:Hp}{s:Shared}{h1:Heap}{fp:List Addr}
  (S:CompSc osc ON scope own N caps) (hsc:X.env.scope=osc) (hN:X.N=ON) (hcl:∀x,cl.lookup x=if (x,b8)∈scope.names then X.env.cells.lookup x else none)
  (I:Inv X pins σ H s) (hf:∀b∈fp,uy X pins H b) (hfs:∀b∈fp,b<s.heap.objs.size) (hD:D=s.heap.objs.size) (hC:C=s.heap.objs.size+1)
  (k:∀b o,s.heap.get? b=some o->h1.get? b=some o) (eD:h1.get? D=some { cls:=.type "list",data:=.seq #[] }) (hn:h1.Ns C λ_=>none) (t':Nat) :
  Inv (X.block scope cl C N s H fp) [] (yZ own caps σ) (upd H D (.lst [])) { s with heap:=h1,toks:=t' }:=by
 subst hD
 subst hC
 have hCs:s.heap.objs.size<=s.heap.objs.size+1:=fk _
 have ok:=Yd (C:=s.heap.objs.size+1) S hsc hcl I hCs hf hfs
 have fromX:∀x c,cl.lookup x=some c->X.env.cells.lookup x=some c/\(x,b8)∈scope.names:=λx c e=>by
  rw [hcl x] at e
  by_cases hm:(x,b8)∈scope.names
  ·rw [if_pos hm] at e;exact ⟨e,hm⟩
  ·rw [if_neg hm] at e;cases e
 have fr:∀a,s.heap.objs.size<=a->H a=none:=λa ha=>I.hok.fresh ha
 have newD:jW X.prog X.w (upd H s.heap.objs.size (.lst [])) h1 s.heap.objs.size (.lst []):=⟨aE _,[],0,.nil,eD⟩
 have cellK:∀x c,X.env.cells.lookup x=some c->∀v,s.heap.IsCell c v->h1.IsCell c v:=λx c _ v ⟨o,ho,hd⟩=>⟨o,k c o ho,hd⟩
 refine ⟨ok,rfl,I.bare,Un.laid k (ao _) (fr _ (ao _)),⟨_,hn,λi x v e1 e2 e3=>?_⟩,λx c e=>?_,?_,λx c e=>?_,λp hp=>absurd (show p∈([]:List (Addr×Obj)) from hp) (by simp),I.hok.laid k (ao _) newD,?_⟩
 ·-- the captured names
  have e1':N[i]? = some x:=e1
  have hi:own<=i:=by
   by_cases hi:own<=i
   ·exact hi
   ·unfold yZ at e2
    rw [c8 (by simp;omega),lJ] at e2
    split at e2 <;> cases e2
  obtain ⟨j',rfl⟩:∃j',i=own+j':=⟨i-own,∅⟩
  have e2':(caps.map λj=>(σ[j]?).getD none)[j']? = some (some v):=by
   unfold yZ at e2
   rw [bK (by simp)] at e2
   simpa using e2
  rw [ax] at e2'
  cases hj:caps[j']? with
  | none=>rw [hj] at e2';cases e2'
  | some j =>
   rw [hj] at e2'
   have e3':(σ[j]?).getD none=some v:=aO e2'
   have e4:σ[j]? = some (some v):=by
    cases q:σ[j]? with
    | none=>rw [q] at e3';cases e3'
    | some z=>rw [q] at e3';exact congrArg some e3'
   have hz:(x,j)∈(N.drop own).zip caps:=by
    refine aw (i:=j') ?_
    rw [List.getElem?_zip_eq_some]
    exact ⟨by rw [dR];exact e1',hj⟩
   obtain ⟨c1,c2⟩:=S.cap _ hz
   obtain ⟨_,hk⟩:=S.fre _ c2 rfl
   have hkX:X.env.kindOf x=some .cell\/X.env.kindOf x=some .free:=by unfold rH;rw [hsc];exact hk
   obtain ⟨m,hm,hl⟩:=I.loc
   obtain ⟨u,ru,l⟩:=hl j x v (by rw [hN];exact c1) e4 (by
    rcases hkX with z | z
    ·exact .inr (.inl z)
    ·exact .inr (.inr z))
   refine ⟨u,ru,?_⟩
   rcases l with ⟨l1,_⟩ | ⟨_,c,lc,lv⟩
   ·rcases hkX with z | z
    ·rw [z] at l1;cases l1
    ·rw [z] at l1;cases l1
   ·refine .inr ⟨?_,c,by show cl.lookup x=some c;rw [hcl x,if_pos c2];exact lc,cellK x c lc _ lv⟩
    rcases e3 with z | z
    ·obtain ⟨k',e',d⟩:=y8 (env:=X.env) z
     have:=(S.fre _ c2 rfl).1
     rw [e'] at this
     cases this
     rcases d with d | d
     ·cases d
     ·cases d.2
    ·exact z
 ·obtain ⟨v,z⟩:=I.cell x c (fromX x c e).1
  exact ⟨v,cellK x c (fromX x c e).1 v z⟩
 ·show upd H s.heap.objs.size (.lst []) (s.heap.objs.size+1)=none
  rw [j6 (d0 (fV _))]
  exact fr _ hCs
 ·have e':=(fromX x c e).1
  obtain ⟨v,z⟩:=I.cell x c e'
  rw [j6 (aB z.lt)]
  exact I.freeC x c e'
 ·unfold yZ
  show _=N.length
  rw [aq,eF,ah,S.len]
structure BlockAt (X:Cx) (pins:List (Addr×Obj)) (H:Hp) (C:Addr):Prop where
 free:H C=none
 loc:C≠X.env.locals
 new:X.s₀.heap.objs.size<=C
 cell:∀x c,X.env.cells.lookup x=some c->c≠C
 pin:∀p∈X.pn++pins,p.1≠C
theorem BlockAt.gone {pins:List (Addr×Obj)}{σ:St}{H:Hp}{C:Addr}{s:Shared}{h':Heap}(B:BlockAt X pins H C) (I:Inv X pins σ H s) (hs:cw C s.heap h'):Inv X pins σ H { s with heap:=h' } :=
 I.turned (t':=s.toks) (λb o hb e=>(hs.2 b hb).trans e) B.free B.loc (.inr B.new) B.cell B.pin
theorem JP {osc:Scope}{ON N:List Str}{scope:Scope}{own:Nat}{caps:List Nat}{cl:List (Str×Addr)}{tg elt iter:Expr}{ifs:List Expr}{g:TG}{ti:TT}{te:TE}{pins:List (Addr×Obj)}{σ:St}{H:Hp}{s:Shared}{fp:List Addr}{it:Addr}
  {tn:Nat->Heap->Prop} {J:It} {Q:VK} {RR:af->Addr->nu->Shared->Prop} {E:af->Shared->Prop}
  (hc:X.calm=true) (S:CompSc osc ON scope own N caps) (hsc:X.env.scope=osc) (hN:X.N=ON) (hcl:∀x,cl.lookup x=if (x,b8)∈scope.names then X.env.cells.lookup x else none)
  (hg:∀cl C s H ex,PG (X.block scope cl C N s H ex) tg g) (hif:∀cl C s H ex,Jt (X.block scope cl C N s H ex) ifs ti) (he:∀cl C s H ex,PE (X.block scope cl C N s H ex) elt te)
  (I:Inv X pins σ H s) (T:Turn X.prog X.w X.K tg J fp it tn) (st:tn 0 s.heap) (hf:∀b∈fp,uy X pins H b)
  (hw:∀acc,H acc=none->∃W:Nat->Nat->St->Hp->Prop,(∃m,W 0 m (yZ own caps σ) (upd H acc (.lst [])))/\∀i m σ' H',W i m σ' H' ->
   (J.stop i H'/\Q (.ref acc) H')\/(J.go i H'/\∃NX:St->Hp->Prop,(∀σ2 H2,NX σ2 H2->∃m',m'<m/\W (i+1) m' σ2 H2) /\
    ∀x H2,J.yld i H' x H2->g x σ' H2 λσ3 H3=>ti σ3 H3 λok H4=>if ok=true then te σ3 H4 λv H5=>∃ys,H5 acc=some (.lst ys)/\ys.length<sizeLine/\NX σ3 (upd H5 acc (.lst (ys++[v]))) else NX σ3 H4))
  (fin:∀(D C:Addr) (H':Hp) (s':Shared),Inv X pins σ H' s'->BlockAt X pins H' C->(∃m,s'.heap.Ns C m)->Q (.ref D) H'->RR (.ref D) C (.ok .next) s') :
  au (aC X.prog X.w) X.A (pW []) (λacc s₃=>au (aC X.prog X.w) X.A (rJ scope X.env.globals cl [] X.env.qual none .none (some X.env)) (λcenv s₄ =>
   d5 (aC X.prog X.w) X.A (.compStart (.ListComp elt [⟨tg,iter,ifs,0⟩] scope pos) 0 (.ref it) acc { cenv with scope:=relabel scope X.env }) (RR acc cenv.locals) s₄) E s₃) E s:=by
 have hfs:∀b∈fp,b<s.heap.objs.size:=λb hb=>by
  obtain ⟨o,e,_⟩:=T.obj _ _ st b hb
  exact ay e
 refine bx (mD S.nocell (by intro y hy;simp at hy) (λh₁ hns₁ hsb₁=>?_) S.kind)
 dsimp only at hns₁ hsb₁ ⊢
 generalize hH2:s.heap.push { cls:=.type "list",dict:=none,data:=.seq ([]:List af).toArray }=H2 at hns₁ hsb₁ ⊢
 have hCsz:H2.objs.size=s.heap.objs.size+1:=by rw [<- hH2,cz]
 have old:∀b o,s.heap.get? b=some o->h₁.get? b=some o:=λb o e=>hsb₁.extBut b o (aB (by rw [hCsz];exact cf (ay e))) (ai _ (hH2 ▸ ai _ e))
 have eD:h₁.get? s.heap.objs.size=some { cls:=.type "list",data:=.seq #[] }:=hsb₁.extBut _ _ (aB ∅) (ai _ (hH2 ▸ az _ rfl))
 have hDn:H s.heap.objs.size=none:=I.hok.fresh (ao _)
 obtain ⟨W,⟨m0,w0⟩,turn⟩:=hw s.heap.objs.size hDn
 have hns:h₁.Ns H2.objs.size λ_=>none:=hns₁
 have I1:Inv (X.block scope cl H2.objs.size N s H fp) [] (yZ own caps σ) (upd H s.heap.objs.size (.lst [])) { s with heap:=h₁,toks:=s.toks+([]:List (Str×af)).length } :=
  uK S hsc hN hcl I hf hfs rfl hCsz old eD hns _
 have st1:tn 0 h₁:=T.keep 0 _ _ st λb _ o e=>old b o e
 have fpB:∀{H':Hp},(∀b∈fp,H' b=none)->∀b∈fp,uy (X.block scope cl H2.objs.size N s H fp) [] H' b:=λ{H'} hn b hb=>by
  have ok:=I1.ok
  exact ⟨hn b hb,(ok.exf b hb).1,ok.exfs b hb,.inl hb,(ok.exf b hb).2,λp hp=>absurd (show p∈([]:List (Addr×Obj)) from hp) (by simp)⟩
 have back:∀{σ':St} {H':Hp} {s':Shared},Inv (X.block scope cl H2.objs.size N s H fp) [] σ' H' s'->Q (.ref s.heap.objs.size) H'->RR (.ref s.heap.objs.size) H2.objs.size (.ok .next) s':=λ{σ' H' s'} J1 q=>by
  have J2:Inv X pins σ H' s':=I.call' (ch:=fp) J1.os J1.base J1.hok J1.bare λb hb=>⟨(hf b hb).2.2.2.1,(hf b hb).2.1,(hf b hb).2.2.2.2.1,(hf b hb).2.2.2.2.2⟩
  obtain ⟨m,hm,_⟩:=J1.loc
  refine fin _ _ H' s' J2 ⟨J1.free,d0 (aN I.lt ∅),aG I.sz ∅,λx c e z=>?_,λp hp z=>?_⟩ ⟨m,hm⟩ q
  ·obtain ⟨v,y⟩:=I.cell x c e
   have h1:H2.objs.size<s.heap.objs.size:=z ▸ y.lt
   exact absurd h1 ∅
  ·have h1:H2.objs.size<s.heap.objs.size:=z ▸ ay (I.pin p hp).1
   exact absurd h1 ∅
 have loop:∀s₃:Shared,s₃={ s with heap:=h₁,toks:=s.toks+([]:List (Str×af)).length } ->
   d5 (aC X.prog X.w) X.A (.compLoop (.ListComp elt [⟨tg,iter,ifs,0⟩] scope pos) 0 (.ref it) (.ref s.heap.objs.size) (rG scope cl H2.objs.size X.env)) (RR (.ref s.heap.objs.size) H2.objs.size) s₃:=by
  rintro s₃ rfl
  refine JL (λn s'=>∃i σ' H',Inv (X.block scope cl H2.objs.size N s H fp) [] σ' H' s'/\tn i s'.heap/\(∀b∈fp,H' b=none)/\W i n σ' H') ?_ m0
   ⟨0,_,_,I1,st1,λb hb=>by rw [j6 (aB (hfs b hb))];exact (hf b hb).1,w0⟩
  rintro n s3 ⟨i,σ3,H3,I3,st3,fr3,w3⟩
  rcases turn i n σ3 H3 w3 with ⟨stop,qn⟩ | ⟨go,NX,hNX,step⟩
  ·refine thn (T.done (X.block scope cl H2.objs.size N s H fp) rfl rfl rfl hc i [] s3 σ3 H3 _ I3 (fpB fr3) st3 stop) λr s4 ⟨hr,I4⟩=>?_
   subst hr
   exact back I4 qn
  ·refine thn (T.item (X.block scope cl H2.objs.size N s H fp) rfl rfl rfl hc i [] s3 σ3 H3 _ I3 (fpB fr3) st3 go) λr s4 ⟨u,hr,h4⟩=>?_
   subst hr
   refine thn h4 λ_ s5 ⟨x,H5,I5,r5,y5,st5,fr5⟩=>?_
   have I5':=I5.pinned (fpB fr5) (T.obj _ _ st5)
   refine thn (hg cl H2.objs.size s H fp _ s5 σ3 H5 x u _ I5' r5 (step x H5 y5)) λ_ s6 ⟨σ6,H6,I6,q6⟩=>?_
   refine thn (hif cl H2.objs.size s H fp _ s6 σ6 H6 _ I6 q6) λok s7 ⟨H7,I7,q7⟩=>?_
   have again:∀{s8:Shared} {σ8:St} {H8:Hp},Inv (X.block scope cl H2.objs.size N s H fp) ([]++zd fp s5.heap) σ8 H8 s8->NX σ8 H8->∃m,m<n/\∃i σ' H',Inv (X.block scope cl H2.objs.size N s H fp) [] σ' H' s8/\tn i s8.heap/\(∀b∈fp,H' b=none)/\W i m σ' H':=λ{s8 σ8 H8} I8 n8=>by
    obtain ⟨m',hm,w8⟩:=hNX σ8 H8 n8
    refine ⟨m',hm,i+1,σ8,H8,I8.unpinned,T.keep _ _ _ st5 λb hb o e=>(I8.pin (b,o) (aI _ (aI _ (qT hb e)))).1,λb hb=>?_,w8⟩
    obtain ⟨o,e,d⟩:=T.obj _ _ st5 b hb
    exact (I8.pin (b,o) (aI _ (aI _ (qT hb e)))).2.1
   cases ok with
   | false =>
    rw [if_neg ar] at q7 ⊢
    exact again I7 q7
   | true =>
    rw [if_pos rfl] at q7 ⊢
    refine thn (he cl H2.objs.size s H fp _ s7 σ6 H7 _ I7 q7) λv s8 ⟨y,H8,I8,r8,ys,e8,z8,q8⟩=>?_
    refine thn (qA _ s8 σ6 H8 (.ref s.heap.objs.size) [y] _ [v] (λ_ H9=>NX σ6 H9) I8 rfl (.cons r8 .nil) ⟨_,ys,y,rfl,rfl,e8,z8,q8⟩) λ_ s9 ⟨_,H9,I9,_,q9⟩=>?_
    exact again I9 q9
 exact lX (loop _ rfl) (T.self _ 0 _ _ _ st1 (loop _ rfl))
theorem QW {osc:Scope}{ON N:List Str}{scope:Scope}{own:Nat}{caps:List Nat}{pins:List (Addr×Obj)}{σ:St}{H:Hp}{s:Shared}(S:CompSc osc ON scope own N caps) (hsc:X.env.scope=osc) (I:Inv X pins σ H s) :
  ∀x∈scope.names,x.2 = .free->∃c,X.env.cells.lookup x.1=some c:=λx hx hk=>I.ok.has x.1 (by unfold rH;rw [hsc];exact (S.fre x hx hk).2)
theorem jS {osc:Scope}{ON N:List Str}{scope:Scope}{own:Nat}{caps:List Nat}{tg elt iter:Expr}{ifs:List Expr}{wi:TI}{g:TG}{ti:TT}{te:TE}(S:CompSc osc ON scope own N caps)
  (hc:X.calm=true) (hsc:X.env.scope=osc) (hN:X.N=ON) (hi:PI X tg iter wi)
  (hg:∀cl C s H ex,PG (X.block scope cl C N s H ex) tg g) (hif:∀cl C s H ex,Jt (X.block scope cl C N s H ex) ifs ti) (he:∀cl C s H ex,PE (X.block scope cl C N s H ex) elt te)
  (hs:∀x,cx iter X.env x=pure x:=by intro _;rfl):PE X (.ListComp elt [⟨tg,iter,ifs,0⟩] scope pos) (Ux own caps wi g ti te):=by
 intro pins s σ H Q I h
 obtain ⟨cl,hclos,hcl⟩:=vf (QW S hsc I)
 rw [sj]
 refine eZ (use:=none) rfl hs hclos S.kind S.loc (thn (hi pins s σ H _ I h) λv s1 h1=>thn h1 λitv s2 h2=>?_)
 obtain ⟨it,fp,tn,J,H2,e,I2,T,st2,f2,hw⟩:=h2
 subst e
 refine JP (RR:=λacc C=>sS (aC X.prog X.w) X.A X.xe none (EP X pins σ Q) acc C) hc S hsc hN hcl hg hif he I2 T st2 f2 hw λD C H' s' J1 B ⟨m,hm⟩ q=>?_
 exact ⟨m,hm,λh' hs'=>⟨.ref D,H',B.gone J1 hs',rfl,q⟩⟩
theorem J7 {osc:Scope}{ON N:List Str}{scope:Scope}{own:Nat}{caps:List Nat}{tg elt iter:Expr}{ifs:List Expr}{wi:TI}{g:TG}{ti:TT}{te:TE}{j:Nat}{y:Str}{py spos:Pos}(S:CompSc osc ON scope own N caps)
  (hnd:X.N.Nodup) (hj:X.N[j]? = some y) (hy:Loc X.env.scope y)
  (hc:X.calm=true) (hsc:X.env.scope=osc) (hN:X.N=ON) (hi:PI X tg iter wi)
  (hg:∀cl C s H ex,PG (X.block scope cl C N s H ex) tg g) (hif:∀cl C s H ex,Jt (X.block scope cl C N s H ex) ifs ti) (he:∀cl C s H ex,PE (X.block scope cl C N s H ex) elt te)
  (hsw:iI (.ListComp elt [⟨tg,iter,ifs,0⟩] scope pos) (some (.Name y py)) spos.line X.env=pure true:=by rfl)
  (hf:X.fn y=true\/X.env.scope.names.lookup y=some .local:=by first | exact .inl rfl | exact .inr rfl | assumption)
  (hs:∀x,cx iter X.env x=pure x:=by intro _;rfl):PS X (.Assign [.Name y py] (.ListComp elt [⟨tg,iter,ifs,0⟩] scope pos) spos) (VZ (Ux own caps wi g ti te) (vE j)):=by
 intro pins s σ H D0 I h
 obtain ⟨cl,hclos,hcl⟩:=vf (QW S hsc I)
 rw [exec_Assign_Name_used _ _ _ _ hsw]
 refine aa (de (aa ?_))
 show au _ X.A (do let _ <- comprehension (.ListComp elt [⟨tg,iter,ifs,0⟩] scope pos) scope X.env _ (pW []) false (eval iter X.env) (some (ij (.Name y py) X.env))) _ _ s
 refine aa (b7 (eZ (use:=some (ij (.Name y py) X.env)) (Q:=λ_ s'=>SP X pins D0 .next s') rfl hs hclos S.kind S.loc
  (thn (hi pins s σ H _ I h) λv s1 h1=>thn h1 λitv s2 h2=>?_)) (λ_ s' hq=>wpAny_pure (wpAny_pure hq)) λ_ _ e=>e)
 obtain ⟨it,fp,tn,J,H2,e,I2,T,st2,f2,hw⟩:=h2
 subst e
 refine JP (Q:=λv H'=>D0.nx (σ.set j (some v)) H') (RR:=λacc C=>sS (aC X.prog X.w) X.A X.xe (some (ij (.Name y py) X.env)) (λ_ s'=>SP X pins D0 .next s') acc C) hc S hsc hN hcl hg hif he I2 T st2 f2 hw λD C H' s' J1 B ⟨m,hm⟩ q=>?_
 show au _ X.A (ij (.Name y py) X.env (.ref D)) _ _ s'
 refine nR (gg (v:=V.ref D) J1 hnd hj hy rfl (λs2 J2 ⟨a,hsame,ha⟩=>?_) hf)
 have hCa:C≠a:=by
  rcases ha with z | z
  ·rw [z];exact B.loc
  ·exact λz2=>B.cell y a z z2.symm
 exact ⟨m,hm.sameBut hsame hCa,λh' hs'=>⟨_,H',B.gone J2 hs',q⟩⟩
end
theorem qp {K:ag}{a acc:Addr}{xs:List V}{g:TG}{ti:TT}{te:TE}{R:Hp->Prop}{σ:St}{H:Hp}(Pv:Nat->St->Hp->Prop) (h0:Pv 0 σ H) (hl:∀i σ H,i<=xs.length->Pv i σ H->SqL K H a xs)
  (hs:∀i x σ H,xs[i]? = some x->Pv i σ H->g x σ H λσ3 H3=>ti σ3 H3 λok H4=>if ok=true then te σ3 H4 λv H5=>∃ys,H5 acc=some (.lst ys)/\ys.length<sizeLine/\Pv (i+1) σ3 (upd H5 acc (.lst (ys++[v]))) else Pv (i+1) σ3 H4)
  (hd:∀σ H,Pv xs.length σ H->R H) :
  ∃W:Nat->Nat->St->Hp->Prop,(∃m,W 0 m σ H)/\∀i m σ' H',W i m σ' H' ->
   ((Itl K a).stop i H'/\R H')\/((Itl K a).go i H'/\∃NX:St->Hp->Prop,(∀σ2 H2,NX σ2 H2->∃m',m'<m/\W (i+1) m' σ2 H2) /\
    ∀x H2,(Itl K a).yld i H' x H2->g x σ' H2 λσ3 H3=>ti σ3 H3 λok H4=>if ok=true then te σ3 H4 λv H5=>∃ys,H5 acc=some (.lst ys)/\ys.length<sizeLine/\NX σ3 (upd H5 acc (.lst (ys++[v]))) else NX σ3 H4):=by
 refine ⟨λi m σ H=>m=xs.length-i/\i<=xs.length/\Pv i σ H,⟨xs.length,by simp,aE _,h0⟩,?_⟩
 rintro i m σ H ⟨rfl,hi,p⟩
 have q:=hl i σ H hi p
 by_cases hlt:i<xs.length
 ·refine .inr ⟨⟨xs,xs[i],q,by simp [hlt]⟩,Pv (i+1),λσ' H' p'=>⟨xs.length-(i+1),∅,rfl,hlt,p'⟩,λx H' y=>?_⟩
  obtain ⟨e,y⟩:=y
  subst e
  exact hs i x σ _ (y xs q) p
 ·have e:i=xs.length:=∅
  subst e
  exact .inl ⟨⟨xs,q,ao _⟩,hd σ H p⟩
theorem Qk {K:ag}{a acc:Addr}{xs:List V}{g:TG}{ti:TT}{te:TE}{R:Hp->Prop}{σ:St}{H:Hp}(Pv:Nat->St->Hp->Prop) (h0:Pv 0 σ H) (hl:∀i σ H,i<=xs.length->Pv i σ H->SqT K H a xs)
  (hs:∀i x σ H,xs[i]? = some x->Pv i σ H->g x σ H λσ3 H3=>ti σ3 H3 λok H4=>if ok=true then te σ3 H4 λv H5=>∃ys,H5 acc=some (.lst ys)/\ys.length<sizeLine/\Pv (i+1) σ3 (upd H5 acc (.lst (ys++[v]))) else Pv (i+1) σ3 H4)
  (hd:∀σ H,Pv xs.length σ H->R H) :
  ∃W:Nat->Nat->St->Hp->Prop,(∃m,W 0 m σ H)/\∀i m σ' H',W i m σ' H' ->
   ((Itt K a).stop i H'/\R H')\/((Itt K a).go i H'/\∃NX:St->Hp->Prop,(∀σ2 H2,NX σ2 H2->∃m',m'<m/\W (i+1) m' σ2 H2) /\
    ∀x H2,(Itt K a).yld i H' x H2->g x σ' H2 λσ3 H3=>ti σ3 H3 λok H4=>if ok=true then te σ3 H4 λv H5=>∃ys,H5 acc=some (.lst ys)/\ys.length<sizeLine/\NX σ3 (upd H5 acc (.lst (ys++[v]))) else NX σ3 H4):=by
 refine ⟨λi m σ H=>m=xs.length-i/\i<=xs.length/\Pv i σ H,⟨xs.length,by simp,aE _,h0⟩,?_⟩
 rintro i m σ H ⟨rfl,hi,p⟩
 have q:=hl i σ H hi p
 by_cases hlt:i<xs.length
 ·refine .inr ⟨⟨xs,xs[i],q,by simp [hlt]⟩,Pv (i+1),λσ' H' p'=>⟨xs.length-(i+1),∅,rfl,hlt,p'⟩,λx H' y=>?_⟩
  obtain ⟨e,y⟩:=y
  subst e
  exact hs i x σ _ (y xs q) p
 ·have e:i=xs.length:=∅
  subst e
  exact .inl ⟨⟨xs,q,ao _⟩,hd σ H p⟩
theorem xn {lo:Int}{n:Nat}{acc:Addr}{g:TG}{ti:TT}{te:TE}{R:Hp->Prop}{σ:St}{H:Hp}(Pv:Nat->St->Hp->Prop) (h0:Pv 0 σ H)
  (hs:∀i σ H,i<n->Pv i σ H->g (.int (lo+i)) σ H λσ3 H3=>ti σ3 H3 λok H4=>if ok=true then te σ3 H4 λv H5=>∃ys,H5 acc=some (.lst ys)/\ys.length<sizeLine/\Pv (i+1) σ3 (upd H5 acc (.lst (ys++[v]))) else Pv (i+1) σ3 H4)
  (hd:∀σ H,Pv n σ H->R H) :
  ∃W:Nat->Nat->St->Hp->Prop,(∃m,W 0 m σ H)/\∀i m σ' H',W i m σ' H' ->
   ((Itr lo n).stop i H'/\R H')\/((Itr lo n).go i H'/\∃NX:St->Hp->Prop,(∀σ2 H2,NX σ2 H2->∃m',m'<m/\W (i+1) m' σ2 H2) /\
    ∀x H2,(Itr lo n).yld i H' x H2->g x σ' H2 λσ3 H3=>ti σ3 H3 λok H4=>if ok=true then te σ3 H4 λv H5=>∃ys,H5 acc=some (.lst ys)/\ys.length<sizeLine/\NX σ3 (upd H5 acc (.lst (ys++[v]))) else NX σ3 H4):=by
 refine ⟨λi m σ H=>m=n-i/\i<=n/\Pv i σ H,⟨n,by simp,aE _,h0⟩,?_⟩
 rintro i m σ H ⟨rfl,hi,p⟩
 by_cases hlt:i<n
 ·refine .inr ⟨hlt,Pv (i+1),λσ' H' p'=>⟨n-(i+1),∅,rfl,hlt,p'⟩,λx H' y=>?_⟩
  obtain ⟨e,y⟩:=y
  subst e y
  exact hs i σ _ hlt p
 ·have e:i=n:=∅
  subst e
  exact .inl ⟨ao _,hd σ H p⟩
end L2
end
section
namespace L2
structure Cal (P:Program) (w:aU) (K:ag) (mg:Str->Option af) (base:Heap) (k:Nat) (x:Str) (ps:List Str) (sp:Sp):Prop where
 ex:∃f fd,FnOk P w K mg base CX0 k f fd ps sp/\yk K fd ps []/\mg x=some (.ref f)/\bR K (.ref f)=true
theorem jg {X:Cx}{k:Nat}{x:Str}{ps:List Str}{sp:Sp}{e:Expr}{es:List Expr}{t:TA}{p pos:Pos}(c:Cal X.prog X.w X.K X.mg X.base k x ps sp) (hr:Room k X.A) (hg:Gl X x) (ha:PA X (e::es) t)
  (hdb:(x == ("__debug__" : Str))=false:=by decide) (he:aK (e::es) X.env=(false,eval e X.env)::aK es X.env:=by rfl) (hpl:(cF pos (aK es X.env)).any (·.1)=false:=by rfl) :
  PE X (.Call (.Name x p) (e::es) [] pos) (UB sp [] E0 t):=by
 obtain ⟨f,fd,F,hb,hm,hk⟩:=c.ex
 exact U4 F hr hg hm hk hb .nil Ur ha hdb he hpl
theorem Cal.mk' {P:Program}{w:aU}{K:ag}{mg:Str->Option af}{base:Heap}{k:Nat}{x:Str}{ps:List Str}{sp:Sp}{st:Stmt}{h:Heap}{f:Addr}{oc:af}{od an:Option Addr}{osl:Array (Option af)}{kV doc pm cdv ct:af}
  (X:K.In h) (G:h.Ns mainGlobals mg) (a:aR K mainGlobals x=some (some (.ref f)))
  (l:K.lookup f=some ⟨oc,od,.func (bB x x (qa st) (jM st) (j8 st) .none kV doc pm an cdv ct),osl⟩) (c:cB K cdv x=true) (k':bR K (.ref f)=true)
  (hb:∀(kV doc pm:af) (an:Option Addr) (cdv ct:af) (us:List af),us.length=ps.length->cA (bB x x (qa st) (jM st) (j8 st) .none kV doc pm an cdv ct) ⟨us,[]⟩=pure (ps.zip us))
  (ok:∀{f:Addr} {fd:FuncData},Fun K x x st f fd->FnOk P w K mg base CX0 k f fd ps sp):Cal P w K mg base k x ps sp:=by
 have F:=vi (st:=st) l c k'
 exact ⟨f,_,ok F,F.binds hb,bh X G a,k'⟩
section
variable {X:Cx}
theorem Qc:xb X (.builtin "isinstance") (λxs H Q=>∃x n t b,xs=[x,.ty n]/\TyOf X.K H x t/\bq X.K t (.type n)=some b/\Q (.bl b) H):=by
 intro pins s σ H xs us Q I r h
 obtain ⟨x,n,t,b,rfl,ty,e,q⟩:=h
 obtain ⟨u,w',rfl,r1,r2⟩:=XX r
 cases (show w'=fU n from r2)
 exact ZJ I r1 ty e λtk=>⟨.bl b,H,I.tok tk,rfl,q⟩
noncomputable def Uz (i j:Int):Prop:=0<j/\j<2 ^ 200
theorem vP:OpR X (ia .FloorDiv) (rI Uz λi j=>.int (i / j)):=opI λi j _ _ _ _ _ hc q=>by
 have h1:(0:Int)<j:=hc.1
 have h2:j<2 ^ 200:=hc.2
 refine floordiv_int ∅ (by rw [Int.fdiv_eq_ediv_of_nonneg i ∅];exact q) (.inl (PyProof.noPylong_of_log2 ?_))
 have h3:j.natAbs<2 ^ 200:=∅
 have h4:j.natAbs≠0:=∅
 have:=(Nat.log2_lt h4).mpr h3
 omega
theorem YB (hc:X.calm=true):xb X (.builtin "all") (λxs H Q=>∃(p:Addr) (bs:List Bool),xs=[.ref p]/\SqL X.K H p (bs.map V.bl)/\Q (.bl (bs.all λb=>b)) H):=by
 intro pins s σ H xs us Q I r h
 obtain ⟨p,bs,rfl,hq,q⟩:=h
 obtain ⟨u,rfl,ru⟩:=yW r
 cases ru
 obtain ⟨its,rv,pl,hz⟩:=I.list hq
 have hne:p≠s.heap.objs.size:=by
  obtain ⟨o,n,e,_⟩:=id pl
  exact aB (ay e)
 have hlen:its.length=bs.length:=by rw [<- rv.length,ah]
 have itsAt:∀i v,its[i]? = some v->∃b,bs[i]? = some b/\v=lN b:=λi v e=>by
  have hi:i<its.length:=(List.getElem?_eq_some_iff.mp e).1
  have hb:(bs.map V.bl)[i]? = some (V.bl (bs[i]'∅)):=by rw [ax,ae ∅];rfl
  obtain ⟨u,h1,h2⟩:=rv.get hb
  rw [e] at h1
  cases h1
  exact ⟨bs[i]'∅,ae ∅,h2⟩
 refine call_all_walk (eI pl.isList ?_)
 refine ⟨s.heap.objs.size,_,_,_,_,_,λi=>bs.getD i true,rfl,Walks.list (show (X.A.in1).handled=none from I.ok.hd hc) s.heap.objs.size p hne its.toArray,⟨⟨_,az _ rfl,rfl,rfl⟩,pl.isList.at λo e=>ai _ e⟩,?_,?_⟩
 ·intro i v s' Q' E' hP hQ
  obtain ⟨b,hb,rfl⟩:=itsAt i v (by simpa using hP)
  have e:bs.getD i true=b:=by rw [ak,hb];rfl
  have hQ:Q' (bs.getD i true) s':=hQ
  rw [e] at hQ
  exact bY hQ
 ·intro h' tk hk
  have e:((aF its.toArray.size).all λi=>bs.getD i true)=bs.all λb=>b:=by
   rw [av,hlen,dZ,bM,bM]
   constructor
   ·intro z b hb
    obtain ⟨i,hi,rfl⟩:=List.mem_iff_getElem.mp hb
    have:=z i (List.mem_range.mpr hi)
    rw [ak,ae hi] at this
    exact this
   ·intro z i hi
    have hi':=List.mem_range.mp hi
    rw [ak,ae hi']
    exact z _ (bU hi')
  rw [e]
  refine ⟨.bl _,H,I.kept (t':=tk) λb o eo=>hk b o (by
   intro z
   have:=List.mem_singleton.mp z
   subst this
   exact absurd (ay eo) (cu _)) (ai _ eo),rfl,q⟩
end
noncomputable def kitT (a b:String):Option Bool:=if (fU a == fU b)=true then some true else if PySem.W.kitMeta b=true then (fastBuiltinMro a).map (·.contains (.type b)) else none
theorem qf (K:ag) (a b:String):bq K (.type a) (.type b)=kitT a b:=rfl
theorem uE (K:ag):bq K (.type "int") (.type "bool")=some false:=(qf K _ _).trans (by decide +kernel)
theorem wN (K:ag):bq K (.type "int") (.type "int")=some true:=(qf K _ _).trans (by decide +kernel)
theorem vI (K:ag):bq K (.type "bool") (.type "bool")=some true:=(qf K _ _).trans (by decide +kernel)
theorem Jp (K:ag):bq K (.type "list") (.type "bool")=some false:=(qf K _ _).trans (by decide +kernel)
theorem JY (K:ag):bq K (.type "list") (.type "int")=some false:=(qf K _ _).trans (by decide +kernel)
theorem JR (K:ag):bq K (.type "list") (.type "str")=some false:=(qf K _ _).trans (by decide +kernel)
theorem vM (K:ag):bq K (.type "list") (.type "list")=some true:=(qf K _ _).trans (by decide +kernel)
theorem yY (K:ag):bq K (.type "list") (.type "tuple")=some false:=(qf K _ _).trans (by decide +kernel)
theorem kH (K:ag):bq K (.type "tuple") (.type "bool")=some false:=(qf K _ _).trans (by decide +kernel)
theorem Ja (K:ag):bq K (.type "tuple") (.type "int")=some false:=(qf K _ _).trans (by decide +kernel)
theorem Jr (K:ag):bq K (.type "tuple") (.type "str")=some false:=(qf K _ _).trans (by decide +kernel)
theorem yX (K:ag):bq K (.type "tuple") (.type "list")=some false:=(qf K _ _).trans (by decide +kernel)
theorem yG (K:ag):bq K (.type "tuple") (.type "tuple")=some true:=(qf K _ _).trans (by decide +kernel)
noncomputable def Ext (b:Addr) (H H':Hp):Prop:=∀c o,H c=some o->c≠b->H' c=some o
theorem Ext.refl {b:Addr}{H:Hp}:Ext b H H:=λ_ _ h _=>h
theorem Ext.trans {b:Addr}{H H1 H2:Hp}(x:Ext b H H1) (y:Ext b H1 H2):Ext b H H2:=λc o h n=>y c o (x c o h n) n
theorem Ext.of_same {b:Addr}{H H':Hp}(x:jn H H'):Ext b H H':=λc o h _=>x c o h
theorem Ext.put {b:Addr}{H:Hp}{o:HO}:Ext b H (upd H b o):=λc _ h n=>by rw [j6 n];exact h
theorem jn.new {H:Hp}{p:Addr}{o:HO}(n:H p=none):jn H (upd H p o):=λc u h=>by rw [j6 (j1 h n)];exact h
theorem Ext.new {b:Addr}{H:Hp}{p:Addr}{o:HO}(n:H p=none):Ext b H (upd H p o):=Ext.of_same (jn.new n)
theorem Ext.free {b:Addr}{H H':Hp}(x:Ext b H H') {p:Addr}(h:H' p=none) (n:p≠b):H p=none:=by
 cases q:H p with
 | none=>rfl
 | some o=>rw [x p o q n] at h;cases h
end L2
end
section
namespace L2
section
variable {X:Cx}
theorem jd (K:ag) (h:X.K=K:=by rfl):IxR X (UV K):=by subst h;exact VS
theorem qC (K:ag) (h:X.K=K:=by rfl):IxR X (Wq K):=by subst h;exact UG
theorem jh (K:ag) (h:X.K=K:=by rfl):xb X (.builtin "len") (λxs H Q=>∃p ys,xs=[.ref p]/\(SqL K H p ys\/SqT K H p ys)/\Q (.int ys.length) H):=by subst h;exact Ju
theorem QK (K:ag) (h:X.K=K:=by rfl):OpR X (c5 .In) (rIn K false):=by subst h;exact Y7
theorem xL (K:ag) (h:X.K=K:=by rfl):OpR X (c5 .NotIn) (rIn K true):=by subst h;exact Jh
theorem jO (K:ag) (h:X.K=K:=by rfl):xb X (.builtin "isinstance") (λxs H Q=>∃x n t b,xs=[x,.ty n]/\TyOf K H x t/\bq K t (.type n)=some b/\Q (.bl b) H):=by subst h;exact Qc
theorem zV (K:ag) (hc:X.calm=true) (h:X.K=K:=by rfl):xb X (.builtin "all") (λxs H Q=>∃(p:Addr) (bs:List Bool),xs=[.ref p]/\SqL K H p (bs.map V.bl)/\Q (.bl (bs.all λb=>b)) H):=by subst h;exact YB hc
theorem jT {tg l:Expr}{tl:TE}(K:ag) (hl:PE X l tl) (h:X.K=K:=by rfl):PI X tg l (Uq K tl):=by subst h;exact VU hl
theorem vD {tg l:Expr}{tl:TE}(K:ag) (hl:PE X l tl) (h:X.K=K:=by rfl):PI X tg l (WK K tl):=by subst h;exact UN hl
theorem qx {es:List Expr}{k:Nat}{t:TGs}{n:Nat}{pos:Pos}(K:ag) (hc:X.calm=true) (h:PGs X es t)
  (hn:(ff es X.env).length=n:=by rfl) (hst:(ff es X.env).findIdx? (·.1)=none:=by rfl) (hK:X.K=K:=by rfl):PG X (.Tuple es k pos) (Gk K n t):=by subst hK;exact WE hc h hn hst
theorem y3 {T id:String}{name:Str}{r:V->List V->Hp->VK->Prop}{o e:Expr}{es:List Expr}{to:TE}{t:TA}{apos cpos:Pos}(K:ag) (pa:nB T) (slot:Slot T name id) (hty:oV (.builtin id)=pure (.type "method_descriptor")) (hm:MtR X id r) (ho:PE X o to) (ha:PA X (e::es) t)
  (hbase:dA o name X.env (eval o X.env)=eval o X.env:=by rfl)
  (hfew:((cF cpos (aK (e::es) X.env)).all (λx=>!x.1) && (iM cpos (eK [] X.env)).all (λx=>x.1.isSome)
   && decide ((e::es).length+([]:List lS).length+(if ([]:List lS).isEmpty then 0 else 1)<30))=true:=by rfl)
  (hline:(apos.endLine == cpos.line)=true:=by rfl) (hs:aK (e::es) X.env=(false,eval e X.env)::aK es X.env:=by rfl) (hplain:(cF cpos (aK es X.env)).any (·.1)=false:=by rfl) (hK:X.K=K:=by rfl) :
  PE X (.Call (.Attribute o name apos) (e::es) [] cpos) (tBM K T r to t):=by subst hK;exact WU pa slot hty hm ho ha hbase hfew hline hs hplain
end
noncomputable def New (H:Hp) (o:HO) (Q:VK):Prop:=∀p H',H p=none->H' p=some o->jn H H'->Q (.ref p) H'
theorem New.at {H:Hp}{o:HO}{Q:VK}(h:New H o Q):∀p,H p=none->Q (.ref p) (upd H p o):=λp n=>h p _ n j5 (jn.new n)
section
variable {X:Cx}{es:List Expr}{t:TA}{pos:Pos}
noncomputable def Gu (t:TA):TE:=λσ H Q=>t σ H λxs H1=>xs.length<=sizeLine/\New H1 (.tup xs) Q
noncomputable def GB (t:TA):TE:=λσ H Q=>t σ H λxs H1=>xs.length<=sizeLine/\New H1 (.lst xs) Q
theorem qK {x1}(h:PA X es t):PE X (.Tuple es x1 pos) (Gu t):=by
 intro pins s σ H Q I hq
 refine wpAny_Tuple_spliced (thn (h pos pins s σ H _ I hq) λus s1 ⟨xs,H1,I1,r,z,q⟩=>⟨by rw [<- r.length];exact z,?_⟩)
 have hf:H1 s1.heap.objs.size=none:=I1.hok.fresh (ao _)
 refine ⟨.ref s1.heap.objs.size,upd H1 s1.heap.objs.size (.tup xs),I1.laid (t':=s1.toks) (λb u e=>ai _ e) (ao _) ?_,rfl,q.at _ hf⟩
 exact ⟨z,us,r,⟨_,az _ rfl,rfl,_,rfl⟩⟩
theorem jZ (h:PA X es t):PE X (.List es pos) (GB t):=by
 intro pins s σ H Q I hq
 refine wpAny_List_spliced (thn (h pos pins s σ H _ I hq) λus s1 ⟨xs,H1,I1,r,z,q⟩=>⟨by rw [<- r.length];exact z,?_⟩)
 have hf:H1 s1.heap.objs.size=none:=I1.hok.fresh (ao _)
 refine ⟨.ref s1.heap.objs.size,upd H1 s1.heap.objs.size (.lst xs),I1.laid (t':=s1.toks) (λb u e=>ai _ e) (ao _) ?_,rfl,q.at _ hf⟩
 exact ⟨z,us,0,r,az _ rfl⟩
theorem OpR.weak {f:af->af->Sem af}{r r':R2}(h:OpR X f r) (w:∀x y H Q,r' x y H Q->r x y H Q):OpR X f r':=λpins s σ H x y v u Q I rx ry q=>h pins s σ H x y v u Q I rx ry (w _ _ _ _ q)
theorem xb.weak {f:af}{r r':List V->Hp->VK->Prop}(h:xb X f r) (w:∀x H Q,r' x H Q->r x H Q):xb X f r':=λpins s σ H xs us Q I rx q=>h pins s σ H xs us Q I rx (w _ _ _ q)
theorem SlR.weak {r r':V->Option Int->Option Int->Hp->VK->Prop}(h:SlR X r) (w:∀x lo hi H Q,r' x lo hi H Q->r x lo hi H Q):SlR X r':=λpins s σ H x v vl vu lo hi sl Q I rx hs pl pu q=>h pins s σ H x v vl vu lo hi sl Q I rx hs pl pu (w _ _ _ _ _ q)
noncomputable def WL:R2:=λx y H Q=>∃l b xs zs,x = .ref l/\y = .ref b/\H l=some (.lst xs)/\H b=some (.lst zs)/\xs.length+zs.length<=sizeLine/\New H (.lst (xs++zs)) Q
theorem Vr:OpR X (ia .Add) WL:=Wr.weak λ_ _ _ _ ⟨l,b,xs,zs,h1,h2,h3,h4,h5,q⟩=>⟨l,b,xs,zs,h1,h2,h3,h4,h5,q.at⟩
theorem qz (K:ag) (h:X.K=K:=by rfl):xb X (.type "list") (λxs H Q=>∃p ys,xs=[.ref p]/\(SqL K H p ys\/SqT K H p ys)/\New H (.lst ys) Q):=by
 subst h
 exact Jl.weak λ_ _ _ ⟨p,ys,h1,h2,q⟩=>⟨p,ys,h1,h2,q.at⟩
theorem hW (K:ag) (h:X.K=K:=by rfl):SlR X (λx lo hi H Q=>∃a xs,x = .ref a/\SqL K H a xs/\New H (.lst (uV xs lo hi)) Q):=by
 subst h
 exact VB.weak λ_ _ _ _ _ ⟨a,xs,h1,h2,q⟩=>⟨a,xs,h1,h2,q.at⟩
theorem Qe (K:ag) (h:X.K=K:=by rfl):SlR X (λx lo hi H Q=>∃a xs,x = .ref a/\SqT K H a xs/\¬(HT.sIx xs.length 0 lo=0/\HT.sIx xs.length xs.length hi=xs.length)/\New H (.tup (uV xs lo hi)) Q):=by
 subst h
 exact UY.weak λ_ _ _ _ _ ⟨a,xs,h1,h2,h3,q⟩=>⟨a,xs,h1,h2,h3,q.at⟩
end
theorem qO {p A B:Prop} [Decidable p] (h1:p->A) (h2:¬p->B):if decide p=true then A else B:=by
 by_cases h:p
 ·rw [if_pos (decide_eq_true h)];exact h1 h
 ·rw [if_neg (by rw [decide_eq_false h];exact ar)];exact h2 h
theorem zn {p A B:Prop} [Decidable p] (h1:¬p->A) (h2:p->B):if (!decide p)=true then A else B:=by
 by_cases h:p
 ·rw [if_neg (by rw [decide_eq_true h];exact ar)];exact h2 h
 ·rw [if_pos (by rw [decide_eq_false h];rfl)];exact h1 h
theorem x3 {α:Type}{xs:List α}{i:Int}{v:α}(h0:0<=i) (h:xs[i.toNat]? = some v):atI xs i=some v:=by
 obtain ⟨n,rfl⟩:=Int.eq_ofNat_of_zero_le h0
 exact zu (by simpa using h)
theorem uA {ns:List Int}{i:Int}(h0:0<=i) (h:i<ns.length):∃z,atI (ns.map V.int) i=some (.int z):=by
 refine ⟨ns[i.toNat]'∅,x3 h0 ?_⟩
 rw [ax,ae ∅]
 rfl
theorem yq {ns:List Int}{i:Nat}{y:V}(h:(ns.map V.int)[i]? = some y):∃z,y=V.int z:=by
 rw [ax] at h
 cases e:ns[i]? with
 | none=>rw [e] at h;cases h
 | some z=>rw [e] at h;exact ⟨z,(aO h).symm⟩
noncomputable def Z4:Sp:=λvs H Q _=>∃a b:Int,vs=[.int a,.int b]/\∀r:Int,Q (.int r) H
noncomputable def Z1:Sp:=λvs H Q _=>∃i:Int,vs=[.int i]/\Q (.bl true) H
structure Nb (mg:Str->Option af):Prop where
 b_len:mg "len" = none
 b_range:mg "range" = none
 b_isinstance:mg "isinstance" = none
 b_int:mg "int" = none
 b_bool:mg "bool" = none
 b_str:mg "str" = none
 b_list:mg "list" = none
 b_tuple:mg "tuple" = none
 b_min:mg "min" = none
 b_max:mg "max" = none
 b_all:mg "all" = none
 b_zip:mg "zip" = none
end L2
end
section
namespace L2
mutual
inductive Rep (M:Addr->Prop) (K:ag) (H:Hp):V->d8->Prop
 | non:Rep M K H .non .none
 | bl (b:Bool):Rep M K H (.bl b) (.bool b)
 | int (i:Int):Rep M K H (.int i) (.int i)
 | str (x:Str):Rep M K H (.str x) (.str x)
 | tup {p:Addr} {vs:List V} {ds:List d8}:¬M p->SqT K H p vs->RepL M K H vs ds->Rep M K H (.ref p) (.tuple ds)
 | lst {p:Addr} {vs:List V} {ds:List d8}:¬M p->SqL K H p vs->RepL M K H vs ds->Rep M K H (.ref p) (.list ds)
inductive RepL (M:Addr->Prop) (K:ag) (H:Hp):List V->List d8->Prop
 | nil:RepL M K H [] []
 | cons {v:V} {vs:List V} {d:d8} {ds:List d8}:Rep M K H v d->RepL M K H vs ds->RepL M K H (v::vs) (d::ds)
end
noncomputable def Yi (M:Addr->Prop) (H H':Hp):Prop:=∀c o,H c=some o->¬M c->H' c=some o
theorem Yi.of_same {M:Addr->Prop}{H H':Hp}(x:jn H H'):Yi M H H':=λc o h _=>x c o h
theorem Rep.reads_all {X:Cx}{pins:List (Addr×Obj)}{σ:St}{H:Hp}{s:Shared}{M:Addr->Prop}(I:Inv X pins σ H s) {vs:List V}{ds:List d8}(h:RepL M X.K H vs ds) :
  ∀{us:List af},jz vs us->∃as,ReadsAll s.heap us ds as:=by
 refine RepL.rec (M:=M) (K:=X.K) (H:=H) (motive_1:=λv d _=>∀u,jA v u->∃as,Reads s.heap u d as) (motive_2:=λvs ds _=>∀{us:List af},jz vs us->∃as,ReadsAll s.heap us ds as)
  ?_ ?_ ?_ ?_ ?_ ?_ ?_ ?_ h
 ·intro u r;cases r;exact ⟨_,Reads.none⟩
 ·intro b u r;cases r;exact ⟨_,Reads.bool b⟩
 ·intro i u r;obtain ⟨t,rfl⟩:=r;exact ⟨_,Reads.int i t⟩
 ·intro x u r;obtain ⟨t,rfl⟩:=r;exact ⟨_,Reads.str x t⟩
 ·intro p vs ds n hq _ ih u r
  cases r
  obtain ⟨its,rv,⟨o,e,c,k,d⟩,_⟩:=I.tuple hq
  obtain ⟨as,q⟩:=ih rv
  exact ⟨as,reads_tuple_at e c d (by simpa using q)⟩
 ·intro p vs ds n hq _ ih u r
  cases r
  obtain ⟨its,rv,⟨o,k,e,c,_,d⟩,_⟩:=I.list hq
  obtain ⟨as,q⟩:=ih rv
  exact ⟨_,reads_list_at e c d (by simpa using q)⟩
 ·intro us r;cases r;exact ⟨_,ReadsAll.nil⟩
 ·intro v vs d ds _ _ ih1 ih2 us r
  cases r with
  | cons r1 r2 =>
   obtain ⟨as,q⟩:=ih1 _ r1
   obtain ⟨bs,q2⟩:=ih2 r2
   exact ⟨_,ReadsAll.cons q q2⟩
theorem Rep.reads {X:Cx}{pins:List (Addr×Obj)}{σ:St}{H:Hp}{s:Shared}{M:Addr->Prop}(I:Inv X pins σ H s) {v:V}{d:d8}{u:af}(h:Rep M X.K H v d) (r:jA v u):∃as,Reads s.heap u d as:=by
 obtain ⟨as,q⟩:=Rep.reads_all I (RepL.cons h .nil) (Paired.cons r .nil)
 cases q with
 | cons q1 q2=>exact ⟨_,q1⟩
section
variable {X:Cx}
noncomputable def Gr (K:ag):R2:=λx y H Q=>∃(M M':Addr->Prop) (d e:d8),Rep M K H x d/\Rep M' K H y e/\ou d=true/\ou e=true/\Q (.bl (nH d e)) H
theorem Wd (hu:X.A.units+64<cLine):OpR X (c5 .Eq) (Gr X.K):=by
 intro pins s σ H x y v u Q I rx ry h
 obtain ⟨M,M',d,e,h1,h2,s1,s2,q⟩:=h
 obtain ⟨as,r1⟩:=h1.reads I rx
 obtain ⟨bs,r2⟩:=h2.reads I ry
 exact eq_dataH r1 r2 s1 s2 hu ⟨.bl _,H,I,rfl,q⟩
end
end L2
end
section
namespace L2
noncomputable def tCut (t u:TS):TS:=λD σ H=>∃P:St->Hp->Prop,t { D with nx:=P } σ H/\∀σ' H',P σ' H'->u D σ' H'
theorem Jf {X:Cx}{st:Stmt}{yD:List Stmt}{t u:TS}(h1:PS X st t) (h2:PSs X yD u):PSs X (st::yD) (tCut t u):=by
 intro pins s σ H D I h
 obtain ⟨P,h,hP⟩:=h
 refine lE (thn (h1 pins s σ H { D with nx:=P } I h) λf s1 q=>?_)
 cases f with
 | next =>
  obtain ⟨σ',H',I',q⟩:=q
  exact h2 pins s1 σ' H' D I' (hP _ _ q)
 | ret v=>exact q
 | brk=>exact q
 | cont=>exact q
section
variable {X:Cx}
end
theorem Ub {X:Cx}(K:ag) (hu:X.A.units+64<cLine) (h:X.K=K:=by rfl):OpR X (c5 .Eq) (Gr K):=by subst h;exact Wd hu
noncomputable def qi (L:Addr) (H:Hp) (b:Addr):Prop:=∃(ns:List Int) (a r c d:Int),H b=some (.lst [.ref L,.int a,.int r,.int c,.int d])/\L≠b/\H L=some (.lst (ns.map V.int))/\0<=a
theorem qi.same {L:Addr}{H H':Hp}{b:Addr}(B:qi L H b) (s:jn H H'):qi L H' b:=by
 obtain ⟨ns,a,r,c,d,h1,h2,h3,h4⟩:=B
 exact ⟨ns,a,r,c,d,s _ _ h1,h2,s _ _ h3,h4⟩
theorem qi.ext {L:Addr}{H H':Hp}{b acc:Addr}(B:qi L H b) (n:acc≠b) (m:acc≠L) (e:Ext acc H H'):qi L H' b:=by
 obtain ⟨ns,a,r,c,d,h1,h2,h3,h4⟩:=B
 exact ⟨ns,a,r,c,d,e _ _ h1 n.symm,h2,e _ _ h3 m.symm,h4⟩
theorem qi.put {L:Addr}{H:Hp}{b acc:Addr}{o:HO}(B:qi L H b) (n:acc≠b) (m:acc≠L):qi L (upd H acc o) b:=B.ext n m Ext.put
theorem qi.ne {L:Addr}{H:Hp}{b p:Addr}(B:qi L H b) (n:H p=none):p≠b:=by
 obtain ⟨ns,a,r,c,d,h1,h2,h3,h4⟩:=B
 exact (j1 h1 n).symm
theorem qi.neL {L:Addr}{H:Hp}{b p:Addr}(B:qi L H b) (n:H p=none):p≠L:=by
 obtain ⟨ns,a,r,c,d,h1,h2,h3,h4⟩:=B
 exact (j1 h3 n).symm
theorem qi.ne_tup {L:Addr}{H:Hp}{b p:Addr}{xs:List V}(B:qi L H b) (n:H p=some (.tup xs)):p≠b:=by
 obtain ⟨ns,a,r,c,d,h1,h2,h3,h4⟩:=B
 exact ji n h1 (by intro z;cases z)
noncomputable def zk:Sp:=λvs H Q _=>∃(L b:Addr) (n:Int),vs=[.ref b,.int n]/\qi L H b/\(0<n/\n<2 ^ 200)/\∀(v:Int) (H':Hp),0<=v->v<n->qi L H' b->Ext b H H'->Q (.int v) H'
noncomputable def Vd (K:ag):Sp:=λvs H Q _=>∃(a:Addr) (ns:List Int),vs=[.ref a]/\SqL K H a (ns.map V.int)/\∀(L b:Addr) (H':Hp),H b=none->qi L H' b->jn H H'->Q (.ref b) H'
noncomputable abbrev T3:=Int×Int×Int
noncomputable abbrev yd (t:T3):HO:=.tup [.int t.1,.int t.2.1,.int t.2.2]
noncomputable def UT (H:Hp) (v:V) (t:T3):Prop:=∃p,v = .ref p/\H p=some (yd t)
noncomputable def jG (H:Hp) (vs:List V) (ts:List T3):Prop:=cO (UT H) vs ts
theorem jG.length {H:Hp}{vs:List V}{ts:List T3}(r:jG H vs ts):vs.length=ts.length:=aX r
theorem jG.get {H:Hp}:∀{vs:List V}{ts:List T3}{i:Nat}{v:V},jG H vs ts->vs[i]? = some v->∃t,ts[i]? = some t/\UT H v t
 | _,_,_,_,.nil,e=>by simp at e
 | _,_,0,_,.cons r _,e=>by simp at e;subst e;exact ⟨_,rfl,r⟩
 | _,_,i+1,v,.cons _ t,e=>by
  obtain ⟨d,h1,h2⟩:=jG.get (i:=i) (v:=v) t (by simpa using e)
  exact ⟨d,by simpa using h1,h2⟩
theorem jG.imp {H H':Hp}{vs:List V}{ts:List T3}(r:jG H vs ts) (h:∀p t,H p=some (yd t)->H' p=some (yd t)):jG H' vs ts :=
 Paired.mapP r λ_ t ⟨p,e,q⟩=>⟨p,e,h p t q⟩
theorem jG.snoc {H:Hp}{vs:List V}{ts:List T3}{v:V}{t:T3}(r:jG H vs ts) (h:UT H v t):jG H (vs++[v]) (ts++[t]):=cP r h
theorem qy {α β:Type}(f:α->β) (l:List α) (i:Nat) (v:α) (h:l[i]? = some v):(l.take (i+1)).map f=(l.take i).map f++[f v]:=by
 rw [c3,h,aA]
 rfl
end L2
end
section
namespace L2
open PySem PySem.W PyProof.Rows
noncomputable def qX {α:Type}(lt:Nat->Nat->Bool) (n:Nat):KasT α->(α->Prop)->Prop
 | .ret a,G=>G a
 | .ask i j k,G=>i<n/\j<n/\qX lt n (k (lt i j)) G
theorem qX.bind {α β:Type}{lt:Nat->Nat->Bool}{n:Nat}{f:α->KasT β}{G:β->Prop}:∀{t:KasT α},qX lt n t (λa=>qX lt n (f a) G)->qX lt n (t.bind f) G
 | .ret _,h=>h
 | .ask _ _ k,h=>⟨h.1,h.2.1,qX.bind (t:=k _) h.2.2⟩
theorem qX.wp {α:Type}{lt:Nat->Nat->Bool}{n:Nat}{cmp:Nat->Nat->(Bool->Shared->Prop)->Shared->Prop}{I:Shared->Prop}(hc:∀i j C s,i<n->j<n->I s->(∀s',I s'->C (lt i j) s')->cmp i j C s)
  {G:α->Prop} {Q:α->Shared->Prop} (hq:∀a s,G a->I s->Q a s):∀{t:KasT α} {s:Shared},qX lt n t G->I s->t.kasWp cmp Q s
 | .ret a,s,h,hs=>hq a s h hs
 | .ask i j k,s,h,hs=>hc i j _ s h.1 h.2.1 hs λs' hs'=>qX.wp hc hq (t:=k _) h.2.2 hs'
section
variable {O:KeyOrd}{key:Nat->O.α}{n:Nat}{p:Array Nat}
noncomputable abbrev ltK (O:KeyOrd) (key:Nat->O.α):Nat->Nat->Bool:=λi j=>O.blt (key i) (key j)
noncomputable abbrev kp (key:Nat->O.α) (p:Array Nat) (i:Nat):O.α:=key (p.getD i 0)
noncomputable def zf (key:Nat->O.α) (p:Array Nat) (k:Nat):Prop:=∀i j,i<=j->j<k->O.kle (kp key p i) (kp key p j)
noncomputable def wJ (key:Nat->O.α) (p:Array Nat) (k:Nat):Prop:=∀i j,i<=j->j<k->O.kle (kp key p j) (kp key p i)
noncomputable def qj (n:Nat) (p:Array Nat):Prop:=p.Perm (aF n).toArray
theorem qj.size (h:qj n p):p.size=n:=by have:=h.size_eq;simpa using this
theorem qj.lt (h:qj n p) (hn:0<n) (i:Nat):p.getD i 0<n:=by
 by_cases hi:i<p.size
 ·have e:p.getD i 0=p[i]:=by simp [nI,hi]
  rw [e]
  have hm:p[i]∈(aF n).toArray.toList:=(Array.perm_iff_toList_perm.mp h).mem_iff.mp (by simp)
  simpa using hm
 ·have e:p.getD i 0=0:=by simp [nI,hi]
  rw [e];exact hn
theorem za {p q:Array Nat}{i j:Nat}(h:p[i]? = q[j]?):p.getD i 0=q.getD j 0:=by
 rw [iF,iF,h]
theorem gA {src d:Nat}(hs:src<p.size) (hd:d<=src) (k:Nat) :
  kp (O:=O) key (bubble p src d) k=if k=src-d then kp key p src else if src-d<k/\k<=src then kp key p (k-1) else kp key p k:=by
 have e:=getElem?_bubble hs d hd k
 unfold kp
 by_cases h1:k=src-d
 ·rw [if_pos h1] at e ⊢;rw [za e]
 ·rw [if_neg h1] at e ⊢
  by_cases h2:src-d<k/\k<=src
  ·rw [if_pos h2] at e ⊢;rw [za e]
  ·rw [if_neg h2] at e ⊢;rw [za e]
theorem QD {i j:Nat}(hj:j<=p.size) (k:Nat):kp (O:=O) key (pX p i j) k=if i<=k/\k<j then kp key p (i+j-1-k) else kp key p k:=by
 have e:=getElem?_mirror_all (i:=i) hj k
 unfold kp pX
 by_cases h1:i<=k/\k<j
 ·rw [if_pos h1] at e ⊢;rw [za e]
 ·rw [if_neg h1] at e ⊢;rw [za e]
theorem xx {i j:Nat}(hj:j<=p.size) (heq:∀k,i<=k->k<j->kp (O:=O) key p k=kp key p (j-1)) (k:Nat):kp (O:=O) key (pX p i j) k=kp key p k:=by
 rw [QD hj]
 split
 ·rw [heq _ ∅ ∅,heq k ∅ ∅]
 ·rfl
theorem qj.rev (h:qj n p) (i j:Nat):qj n (pX p i j):=(mirror_perm _ _ _ _).trans h
theorem qj.bub (h:qj n p) (i j:Nat):qj n (bubble p i j):=(bubble_perm _ _ _).trans h
theorem Je (hP:qj n p) (hn:0<n) {G:Nat->Prop}:∀(f a:Nat),1<=a->zf (O:=O) key p a ->
  (∀m,a<=m->m<=a+f->zf (O:=O) key p m->(m=a+f\/O.klt (kp key p m) (kp key p (m-1)))->G m)->qX (ltK O key) n (kas_asc p f a) G
 | 0,a,_,hs,h=>h a (ao _) (ao _) hs (.inl rfl)
 | f+1,a,h1,hs,h=>by
  refine ⟨hP.lt hn _,hP.lt hn _,?_⟩
  show qX _ _ (if O.blt (kp key p a) (kp key p (a-1))=true then _ else _) _
  cases hless:O.blt (kp key p a) (kp key p (a-1)) with
  | true=>rw [if_pos rfl];exact h a (ao _) ∅ hs (.inr hless)
  | false =>
   rw [if_neg ar]
   refine Je hP hn f (a+1) ∅ (λi j hij hj=>?_) λm hm1 hm2 hsm ho=>h m ∅ ∅ hsm (ho.imp (λz=>∅) id)
   by_cases hja:j<a
   ·exact hs i j hij hja
   ·have hj':j=a:=∅
    subst hj'
    by_cases hi':i=j
    ·subst hi';exact cW _
    ·exact fX (hs i (j-1) ∅ ∅) hless
theorem hU (hP:qj n p) {m nrem:Nat}{G:Nat×Array Nat->Prop}(h1:1<=m) (hm:m<=nrem) (hn:nrem<=n) (hs:wJ (O:=O) key p m)
  (h:∀k p',qj n p'->1<=k->k<=nrem->zf (O:=O) key p' k->G (k,p')):qX (ltK O key) n (sD m nrem p) G:=by
 have hsz:m<=p.size:=by rw [hP.size];omega
 refine qX.bind (Je (hP.rev _ _) ∅ _ m h1 (λi j hij hj=>?_) λk hk1 hk2 hk3 _=>h k _ (hP.rev _ _) ∅ ∅ hk3)
 rw [QD hsz,QD hsz,if_pos ∅,if_pos ∅]
 exact hs _ _ ∅ ∅
theorem vH {nrem:Nat}(hn:nrem<=n) {G:Array Nat×Nat×Nat->Prop}:∀(f:Nat) (p:Array Nat) (x q:Nat),qj n p->1<=x->x+f=nrem->wJ (O:=O) key p x->q+1<=x ->
  (∀i,x-(q+1)<=i->i<x->kp (O:=O) key p i=kp key p (x-1)) ->
  (∀p' m q',qj n p'->x<=m->m<=nrem->wJ (O:=O) key p' m->q'+1<=m->(∀i,m-(q'+1)<=i->i<m->kp (O:=O) key p' i=kp key p' (m-1))->G (p',m,q')) ->
  qX (ltK O key) n (kas_desc f p x q) G
 | 0,p,x,q,hP,h1,hx,hs,hq,he,h=>h p x q hP (ao _) ∅ hs hq he
 | f+1,p,x,q,hP,h1,hx,hs,hq,he,h=>by
  have hsz:x<=p.size:=by rw [hP.size];omega
  refine ⟨hP.lt ∅ _,hP.lt ∅ _,?_⟩
  show qX _ _ (if O.blt (kp key p x) (kp key p (x-1))=true then _ else _) _
  cases hless:O.blt (kp key p x) (kp key p (x-1)) with
  | true =>
   rw [if_pos rfl]
   have step1:∀p':Array Nat,(∀k,kp (O:=O) key p' k=kp key p k)->wJ (O:=O) key p' (x+1):=by
    intro p' hk i j hij hj
    rw [hk,hk]
    by_cases hjx:j<x
    ·exact hs i j hij hjx
    ·have hj':j=x:=∅
     subst hj'
     by_cases hi':i=j
     ·subst hi';exact cW _
     ·exact fX (fJ hless) (hs i (j-1) ∅ ∅)
   by_cases hneq:q > 0
   ·rw [if_pos hneq]
    exact vH hn f _ (x+1) 0 (hP.rev _ _) ∅ ∅ (step1 _ (xx hsz he)) ∅ (λi h1 h2=>by congr 1;omega) λp' m q' a b=>h p' m q' a ∅
   ·rw [if_neg hneq]
    exact vH hn f _ (x+1) 0 hP ∅ ∅ (step1 _ λ_=>rfl) ∅ (λi h1 h2=>by congr 1;omega) λp' m q' a b=>h p' m q' a ∅
  | false =>
   rw [if_neg ar]
   refine ⟨hP.lt ∅ _,hP.lt ∅ _,?_⟩
   show qX _ _ (if O.blt (kp key p (x-1)) (kp key p x)=true then _ else _) _
   cases hlarger:O.blt (kp key p (x-1)) (kp key p x) with
   | true=>rw [if_pos rfl];exact h p x q hP (ao _) ∅ hs hq he
   | false =>
    rw [if_neg ar]
    have heqx:kp (O:=O) key p x=kp key p (x-1):=iC hlarger hless
    refine vH hn f p (x+1) (q+1) hP ∅ ∅ (λi j hij hj=>?_) ∅ (λi h1 h2=>?_) λp' m q' a b=>h p' m q' a ∅
    ·by_cases hjx:j<x
     ·exact hs i j hij hjx
     ·have hj':j=x:=∅
      subst hj'
      by_cases hi':i=j
      ·subst hi';exact cW _
      ·rw [heqx];exact hs i (j-1) ∅ ∅
    ·rw [show x+1-1=x by omega]
     by_cases hix:i=x
     ·subst hix;rfl
     ·rw [heqx];exact he i ∅ ∅
theorem vT (hP:qj n p) {m nrem:Nat}{G:Nat×Array Nat->Prop}(hm:m+1<=nrem) (hn:nrem<=n) (hs:wJ (O:=O) key p (m+1))
  (h:∀k p',qj n p'->1<=k->k<=nrem->zf (O:=O) key p' k->G (k,p')):qX (ltK O key) n (kas_descPart m nrem p) G:=by
 refine qX.bind (vH hn _ p (m+1) 0 hP ∅ ∅ hs ∅ (λi h1 h2=>by congr 1;omega) λp' k q hP' hk1 hk2 hs' hq he=>?_)
 have hsz:k<=p'.size:=by rw [hP'.size];omega
 show qX _ _ (if q > 0 then sD k nrem (pX p' (k-(q+1)) k) else sD k nrem p') _
 by_cases hneq:q > 0
 ·rw [if_pos hneq]
  refine hU (hP'.rev _ _) ∅ hk2 hn (λi j hij hj=>?_) h
  rw [xx hsz he,xx hsz he]
  exact hs' i j hij hj
 ·rw [if_neg hneq]
  exact hU hP' ∅ hk2 hn hs' h
theorem Y5 (hP:qj n p) (hn:0<n) {G:Nat×Array Nat->Prop}(h:∀k p',qj n p'->1<=k->k<=n->zf (O:=O) key p' k->G (k,p')):qX (ltK O key) n (kas_count n p) G:=by
 refine qX.bind (Je hP hn _ 1 (ao 1) (λi j hij hj=>by have:i=j:=∅;subst this;exact cW _) λm hm1 hm2 hsm hor=>?_)
 by_cases hnn:m=n
 ·rw [if_pos (by simpa using hnn)]
  exact h m p hP hm1 ∅ hsm
 ·rw [if_neg (by simpa using hnn)]
  have hlt:O.klt (kp key p m) (kp key p (m-1)):=by
   rcases hor with z | z
   ·omega
   ·exact z
  by_cases hgt:m > 1
  ·rw [if_pos hgt]
   refine ⟨hP.lt hn _,hP.lt hn _,?_⟩
   show qX _ _ (if O.blt (kp key p 0) (kp key p (m-1))=true then _ else _) _
   cases hrose:O.blt (kp key p 0) (kp key p (m-1)) with
   | true=>rw [if_pos rfl];exact h m p hP hm1 ∅ hsm
   | false =>
    rw [if_neg ar]
    have hsz:m<=p.size:=by rw [hP.size];omega
    have hall:∀k,0<=k->k<m->kp (O:=O) key p k=kp key p (m-1):=by
     intro k _ hk
     have a1:=hsm 0 k ∅ hk
     have a2:=hsm k (m-1) ∅ ∅
     exact iC a2 (fX hrose a1)
    refine vT (hP.rev _ _) ∅ (ao _) (λi j hij hj=>?_) h
    rw [xx hsz hall,xx hsz hall]
    by_cases hjn:j<m
    ·rw [hall i ∅ ∅,hall j ∅ hjn];exact cW _
    ·have hj':j=m:=∅
     subst hj'
     by_cases hi':i=j
     ·subst hi';exact cW _
     ·rw [hall i ∅ ∅];exact fJ hlt
  ·rw [if_neg hgt]
   have hm1':m=1:=∅
   subst hm1'
   refine vT hP ∅ (ao _) (λi j hij hj=>?_) h
   by_cases hi':i=j
   ·subst hi';exact cW _
   ·have hi0:i=0:=∅
    have hj1:j=1:=∅
    subst hi0;subst hj1
    exact fJ hlt
theorem uw (hP:qj n p) (hn:0<n) {k:Nat}(hs:zf (O:=O) key p k) {G:Nat->Prop}:∀(f l r:Nat),l<=r->r<=k->r-l<=f ->
  (∀i,i<l->O.kle (kp key p i) (kp key p k))->(∀i,r<=i->i<k->O.klt (kp key p k) (kp key p i)) ->
  (∀l,l<=k->(∀i,i<l->O.kle (kp key p i) (kp key p k))->(∀i,l<=i->i<k->O.klt (kp key p k) (kp key p i))->G l)->qX (ltK O key) n (kas_place p k f l r) G
 | 0,l,r,hlr,hrk,hm,hlo,hhi,h=>by
  have:l=r:=∅
  subst this
  exact h l hrk hlo hhi
 | f+1,l,r,hlr,hrk,hm,hlo,hhi,h=>by
  unfold kas_place
  by_cases hge:l>=r
  ·rw [if_pos hge]
   have:l=r:=∅
   subst this
   exact h l hrk hlo hhi
  ·rw [if_neg hge]
   refine ⟨hP.lt hn _,hP.lt hn _,?_⟩
   show qX _ _ (if O.blt (kp key p k) (kp key p ((l+r) / 2))=true then _ else _) _
   cases hless:O.blt (kp key p k) (kp key p ((l+r) / 2)) with
   | true =>
    rw [if_pos rfl]
    exact uw hP hn hs f l _ ∅ ∅ ∅ hlo (λi h1 h2=>KeyOrd.klt_of_klt_of_kle hless (hs _ _ h1 h2)) h
   | false =>
    rw [if_neg ar]
    exact uw hP hn hs f _ r ∅ ∅ ∅ (λi h1=>fX (hs i ((l+r) / 2) ∅ ∅) (show O.kle _ _ from hless)) hhi h
theorem XQ (hn:0<n) {G:Array Nat->Prop}:∀(f:Nat) (p:Array Nat) (k:Nat),qj n p->k+f=n->zf (O:=O) key p k ->
  (∀p',qj n p'->zf (O:=O) key p' n->G p')->qX (ltK O key) n (kas_bin f p k) G
 | 0,p,k,hP,hk,hs,h=>h p hP (by rw [<- hk];exact hs)
 | f+1,p,k,hP,hk,hs,h=>by
  refine qX.bind (uw hP hn hs k 0 k (aE _) (ao _) ∅ (λi hi=>∅) (λi h1 h2=>∅) λl hlk hlo hhi=>?_)
  refine XQ hn f _ (k+1) (hP.bub _ _) ∅ (λi j hij hj=>?_) h
  have hks:k<p.size:=by rw [hP.size];omega
  rw [gA hks ∅,gA hks ∅,show k-(k-l)=l by omega]
  repeat' split
  all_goals first
   | (exfalso;omega)
   | exact cW _
   | exact hlo _ ∅
   | exact fJ (hhi _ ∅ ∅)
   | exact hs _ _ ∅ ∅
theorem wf (hn:0<n) {G:Array Nat->Prop}(h:∀p',qj n p'->zf (O:=O) key p' n->G p'):qX (ltK O key) n (sU n) G:=by
 refine qX.bind (Y5 (Array.Perm.refl _) hn λk p' hP h1 hk hs=>?_)
 show qX _ _ (if k<n then kas_bin (n-max k 1) p' (max k 1) else .ret p') _
 by_cases hkn:k<n
 ·rw [if_pos hkn,show max k 1=k by omega]
  exact XQ hn _ p' k hP ∅ hs h
 ·rw [if_neg hkn]
  have e:k=n:=∅
  subst e
  exact h p' hP hs
end
noncomputable def ze:List Int->List Int->Bool
 | [],[]=>false
 | [],_::_=>true
 | _::_,[]=>false
 | a::x,b::y=>if a=b then ze x y else decide (a<b)
theorem uP:∀a,ze a a=false
 | []=>rfl
 | a::x=>by unfold ze;rw [if_pos rfl];exact uP x
theorem wP:∀a b c,ze a b=true->ze b c=true->ze a c=true
 | [],[],_,h,_=>by cases h
 | [],_::_,[],_,h=>by cases h
 | [],_::_,_::_,_,_=>rfl
 | _::_,[],_,h,_=>by cases h
 | _::_,_::_,[],_,h=>by cases h
 | a::x,b::y,c::z,h1,h2=>by
  unfold ze at h1 h2 ⊢
  by_cases e1:a=b
  ·subst e1
   rw [if_pos rfl] at h1
   by_cases e2:a=c
   ·rw [if_pos e2] at h2 ⊢;exact wP x y z h1 h2
   ·rw [if_neg e2] at h2 ⊢;exact h2
  ·rw [if_neg e1] at h1
   have h1':=of_decide_eq_true h1
   by_cases e2:b=c
   ·subst e2;rw [if_neg e1];exact h1
   ·rw [if_neg e2] at h2
    have h2':=of_decide_eq_true h2
    rw [if_neg ∅]
    exact decide_eq_true ∅
theorem Qo:∀a b c,ze a c=true->ze a b=true\/ze b c=true
 | [],[],[],h=>by cases h
 | [],[],_::_,_=>.inr rfl
 | [],_::_,_,_=>.inl rfl
 | _::_,_,[],h=>by cases h
 | _::_,[],_::_,_=>.inr rfl
 | a::x,b::y,c::z,h=>by
  unfold ze at h ⊢
  by_cases e1:a=b
  ·subst e1
   rw [if_pos rfl]
   by_cases e2:a=c
   ·rw [if_pos e2] at h ⊢;exact Qo x y z h
   ·rw [if_neg e2] at h ⊢;exact .inr h
  ·rw [if_neg e1]
   by_cases e2:b=c
   ·subst e2;rw [if_neg e1] at h;exact .inl h
   ·rw [if_neg e2]
    by_cases e3:a=c
    ·subst e3
     by_cases hab:a<b
     ·exact .inl (decide_eq_true hab)
     ·exact .inr (decide_eq_true ∅)
    ·rw [if_neg e3] at h
     have h':=of_decide_eq_true h
     by_cases hab:a<b
     ·exact .inl (decide_eq_true hab)
     ·exact .inr (decide_eq_true ∅)
theorem kD:∀a b,ze a b=false->ze b a=false->a=b
 | [],[],_,_=>rfl
 | [],_::_,h,_=>by cases h
 | _::_,[],_,h=>by cases h
 | a::x,b::y,h1,h2=>by
  unfold ze at h1 h2
  by_cases e:a=b
  ·subst e
   rw [if_pos rfl] at h1 h2
   rw [kD x y h1 h2]
  ·rw [if_neg e] at h1
   rw [if_neg (λz=>e z.symm)] at h2
   have:=of_decide_eq_false h1
   have:=of_decide_eq_false h2
   omega
noncomputable def uU:KeyOrd:=⟨List Int,ze,uP,wP,Qo,kD⟩
noncomputable def Uh:KeyOrd:=⟨Int,λa b=>decide (a<b),λa=>by simp,λa b c h1 h2=>by
  have:=of_decide_eq_true h1;have:=of_decide_eq_true h2;exact decide_eq_true ∅,λa b c h=>by
  have:=of_decide_eq_true h
  by_cases hab:a<b
  ·exact .inl (decide_eq_true hab)
  ·exact .inr (decide_eq_true ∅),λa b h1 h2=>by
  have:=of_decide_eq_false h1;have:=of_decide_eq_false h2;omega⟩
end L2
end
section
namespace L2
open PySem.W
open PySem.AutoSeq1 (wpAny_loadPart')
open PySem.MeetsSeq PySem.MeetsSeq2 PySem.MeetsSeq3 PySem.SeqRoads2
theorem Jn {its:List af}{xs:List Int}(h:d6 its xs) {i:Nat}(hi:i<its.length):∃t,its[i]? = some (.int (xs[i]'(by have:=h.length;omega)) t):=by
 have hx:i<xs.length:=by have:=h.length;omega
 obtain ⟨u,e1,t,e2⟩:=jz.get (ue h) (i:=i) (x:=V.int xs[i]) (by rw [ax,ae hx];rfl)
 exact ⟨t,by rw [e1,e2]⟩
theorem ZV (l b:Addr) (items items2:List af) (n n2:Nat) (dd dd2:Option Addr) (sl sl2:Array (Option af)) {xs ys:List Int}(hx:d6 items xs) (hy:d6 items2 ys) (k:Nat) :
  ∀i:Nat,items.length-i=k->i<=items.length->i<=items2.length->Meets (dO.«list.__eq__.loop» ⟨[.ref l,.ref b,bJ i,bJ 0],[]⟩)
   (λA R s=>s.heap.get? l=some { cls:=.type "list",dict:=dd,data:=.seq items.toArray n,slots:=sl }/\s.heap.get? b=some { cls:=.type "list",dict:=dd2,data:=.seq items2.toArray n2,slots:=sl2 } /\
    R (.ok (.ret (.bool (ze (xs.drop i) (ys.drop i))))) s):=by
 have l1:=hx.length
 have l2:=hy.length
 induction k with
 | zero =>
  intro i hk hi hi2 prog w A R s h
  obtain ⟨hp,g,d,tk,os⟩:=s;obtain ⟨hl,hb,h⟩:=h
  wp_walk using bT hl,bT hb
  have e1:items.toArray[((i:Nat):Int).toNat]? = none:=by simp;omega
  have hd:xs.drop i=[]:=by simp;omega
  rw [hd] at h
  rw [e1]
  wp_walk using bT hl,bT hb
  show R (.ok (.ret (.bool (decide (items.toArray.size<items2.toArray.size))))) _
  have e2:decide (items.toArray.size<items2.toArray.size)=ze [] (ys.drop i):=by
   by_cases hlt:i<ys.length
   ·rw [cH hlt]
    exact decide_eq_true (by simp;omega)
   ·rw [lY ∅]
    exact decide_eq_false (by simp;omega)
  rw [e2]
  exact h
 | succ k ih =>
  intro i hk hi hi2 prog w A R s h
  obtain ⟨hp,g,d,tk,os⟩:=s;obtain ⟨hl,hb,h⟩:=h
  have hlt:i<items.length:=∅
  obtain ⟨t,e1'⟩:=Jn hx hlt
  have e1:items.toArray[((i:Nat):Int).toNat]? = some (.int (xs[i]'∅) t):=by simpa using e1'
  wp_walk using bT hl,bT hb
  rw [e1]
  by_cases hlt2:i<items2.length
  ·obtain ⟨u,e2'⟩:=Jn hy hlt2
   have e2:items2.toArray[((i:Nat):Int).toNat]? = some (.int (ys[i]'∅) u):=by simpa using e2'
   rw [e2]
   rw [cH (show i<xs.length by omega),cH (show i<ys.length by omega)] at h
   unfold ze at h
   refine aa (lC ?_)
   have hc:((i:Int)+1)=((i+1:Nat):Int):=by push_cast;rfl
   by_cases e:xs[i]'∅=ys[i]'∅
   ·rw [if_pos e] at h
    rw [beq_iff_eq.mpr e]
    wp_walk
    rw [hc]
    exact ⟨ly plain_eq_loop _,iq entry_eq_loop (by
     rw [eL plain_eq_loop _]
     exact ih (i+1) ∅ ∅ ∅ prog w A R _ ⟨hl,hb,h⟩)⟩
   ·rw [if_neg e] at h
    rw [beq_eq_false_iff_ne.mpr e]
    wp_walk using bT hl,bT hb
    rw [e1,e2]
    refine aa (show au (aC prog w) _ (richCompare .Lt _ _) _ _ _ from lt_int ?_)
    exact wpAny_pure h
  ·have e2:items2.toArray[((i:Nat):Int).toNat]? = none:=by simp;omega
   rw [e2]
   rw [cH (show i<xs.length by omega),lY (show ys.length<=i by omega)] at h
   wp_walk using bT hl,bT hb
   show R (.ok (.ret (.bool (decide (items.toArray.size<items2.toArray.size))))) _
   rw [decide_eq_false (by simp;omega)]
   exact h
theorem Ze (l b:Addr) (items items2:List af) (n n2:Nat) (dd dd2:Option Addr) (sl sl2:Array (Option af)) {xs ys:List Int}(hx:d6 items xs) (hy:d6 items2 ys) :
  Meets (dO.«list.__lt__» ⟨[.ref l,.ref b],[]⟩)
   (λA R s=>s.heap.get? l=some { cls:=.type "list",dict:=dd,data:=.seq items.toArray n,slots:=sl }/\s.heap.get? b=some { cls:=.type "list",dict:=dd2,data:=.seq items2.toArray n2,slots:=sl2 } /\
    R (.ok (.ret (.bool (ze xs ys)))) s):=by
 intro prog w A R s h
 obtain ⟨hp,g,d,tk,os⟩:=s;obtain ⟨hl,hb,h⟩:=h
 have f3:=AutoSeq1.sub_list_list
 wp_walk using bT hl,bT hb
 exact ⟨ly plain_eq_loop _,iq entry_eq_loop (by
  rw [eL plain_eq_loop _]
  exact ZV l b items items2 n n2 dd dd2 sl sl2 hx hy _ 0 rfl (aE _) (aE _) prog w A R _ ⟨hl,hb,by simpa using h⟩)⟩
section
variable {prog:Program}{w:aU}{A:bb}{E:af->Shared->Prop}{s:Shared}
theorem Qv {l b:Addr}{items items2:List af}{xs ys:List Int}{n n2:Nat}{dd dd2:Option Addr}{sl sl2:Array (Option af)}{Q:Bool->Shared->Prop}(hu:A.units<cLine)
  (hl:s.heap.get? l=some { cls:=.type "list",dict:=dd,data:=.seq items.toArray n,slots:=sl }) (hb:s.heap.get? b=some { cls:=.type "list",dict:=dd2,data:=.seq items2.toArray n2,slots:=sl2 })
  (hx:d6 items xs) (hy:d6 items2 ys) (h:Q (ze xs ys) s):au (aC prog w) A (oneLt' true (.ref l) (.ref b)) Q E s:=by
 rw [oneLt'_eq]
 simp only [if_true]
 refine aa (wpAny_cRoomFor hu ?_)
 refine aa (wpAny_callSpecialIfBound?_slot ⟨_,hl,rfl⟩ mE (fg mE ⟨_,hl,rfl⟩ PySem.F.entry_list_lt (PySem.F.args_list_lt_2 _ _) (Ze l b items items2 n n2 dd dd2 sl sl2 hx hy) ⟨hl,hb,?_⟩))
 exact bY h
theorem XE {x y:Addr}{ox oy:Obj}{items items2:List af}{xs ys:List Int}{n k:Nat}{Q:Bool->Shared->Prop}(hx:s.heap.get? x=some ox) (dx:ox.data = .seq items.toArray n) (hy:s.heap.get? y=some oy) (dy:oy.data = .seq items2.toArray k)
  (ix:d6 items xs) (iy:d6 items2 ys) (h:Q (ze xs ys) s):au (aC prog w) A (keyLt' (tuples' true) (.ref x) (.ref y)) Q E s:=by
 refine kat_lt hx dx hy dy ?_
 have go:∀(items items2:List af) (xs ys:List Int) (i:Nat) (fin:Bool),d6 items xs->d6 items2 ys->(∀m:Nat,xs.length=m+items.length-items.length->True) ->
   fin=decide (items.length<items2.length)->Q (ze xs ys) s->KatLex prog w A true fin Q (items.zip items2) i s:=by
  intro items items2 xs ys i fin a b
  induction a generalizing items2 ys i with
  | nil =>
   intro _ hf hq
   cases b with
   | nil=>subst hf;exact hq
   | cons m u r=>subst hf;exact hq
  | cons m u r ih =>
   intro _ hf hq
   cases b with
   | nil=>subst hf;exact hq
   | cons m' u' r' =>
    refine kat_cons (lC ?_)
    unfold ze at hq
    by_cases e:m=m'
    ·rw [beq_iff_eq.mpr e]
     rw [if_pos e] at hq
     refine kat_yes (ih _ _ _ r' (λ_ _=>trivial) ?_ hq)
     rw [hf]
     simp
    ·rw [beq_eq_false_iff_ne.mpr e]
     rw [if_neg e] at hq
     refine kat_no ?_
     cases hb:(true && i == 0) with
     | true=>exact oneLt_int hq
     | false=>exact kat_one _ _ (lt_int hq)
 have e:(items.toArray.toList.zip items2.toArray.toList)=items.zip items2:=by simp
 rw [e]
 exact go items items2 xs ys 0 _ ix iy (λ_ _=>trivial) (by simp) h
end
end L2
end
section
namespace L2
open PySem.W
section
variable {prog:Program}{w:aU}{A:bb}{E:af->Shared->Prop}{s:Shared}
theorem vC (its:List af):(its.toArray.zip its.toArray).map (·.2)=its.toArray:=by
 apply Array.toList_inj.mp
 rw [oW,ksk_zip]
 show (its.zip its).map sR=its
 rw [oX]
 exact ao _
theorem vo (its:List af):((aF its.length).map λi=>its.getD i aS)=its:=by
 apply lK
 ·simp
 ·intro i h1 h2
  simp at h1
  simp [h1]
theorem Xy {l:Addr}{its:List af}{κ:rK}{lt:Nat->Nat->Bool}{G:List Nat->Prop}{Q:af->Shared->Prop}(hl:s.heap.IsList l its.toArray) (h64:its.length<64)
  (hk:2<=its.length->∀h',(∀b o,s.heap.get? b=some o->h'.get? b=some o)->∀Q':rK->Shared->Prop,Q' κ { s with heap:=h' }->au (aC prog w) A.in1.in1 (keyKind' its.toArray) Q' (λ_ _=>False) { s with heap:=h' })
  (hc:∀h',(∀b o,s.heap.get? b=some o->h'.get? b=some o)->∀i j,i<its.length->j<its.length->∀Q':Bool->Shared->Prop,Q' (lt i j) { s with heap:=h' } ->
   au (aC prog w) A.in1.in1 (keyLt' κ (its.getD i aS) (its.getD j aS)) Q' (λ_ _=>False) { s with heap:=h' })
  (hs:2<=its.length->qX lt its.length (sU its.length) λp=>qj its.length p/\G p.toList) (h1:its.length<2->G (aF its.length))
  (h:∀(ix:List Nat) (h':Heap) (n:Nat),ix.Perm (aF its.length)->G ix->(∀b o,s.heap.get? b=some o->h'.get? b=some o) ->
   h'.get? (s.heap.objs.size+1)=some (bo "list" (ix.map λi=>its.getD i aS).toArray n)->Q (.ref (s.heap.objs.size+1)) { s with heap:=h' }) :
  au (aC prog w) A (call (.builtin "sorted") [.ref l]) Q E s:=by
 refine iU pI ow oz (args_sorted1 _) ?_
 unfold dO.«sorted»
 refine aa (m:=rM "sorted" 1 1 _) (wpAny_pure ?_)
 refine aa (collect_list hl ?_ (by rw [bt];omega))
 refine aa (fb ?_ (by rw [bt];omega))
 have hsz:((s.heap.push (bo "list" #[] 0)).update s.heap.objs.size (aT (· ++ its.toArray))).objs.size=s.heap.objs.size+1:=by
  rw [dG,nJ]
 have ho:(((s.heap.push (bo "list" #[] 0)).update s.heap.objs.size (aT (· ++ its.toArray))).push (bo "list" its.toArray 0)).get? (s.heap.objs.size+1)=some (bo "list" its.toArray 0):=by
  rw [<- hsz];exact az _ rfl
 have keep:∀b o,s.heap.get? b=some o->(((s.heap.push (bo "list" #[] 0)).update s.heap.objs.size (aT (· ++ its.toArray))).push (bo "list" its.toArray 0)).get? b=some o:=λb o q=>by
  have hlt:b<s.heap.objs.size:=ay q
  rw [cD _ _ _ (by rw [hsz];exact aB (cf hlt)),bW _ _ _ _ (aB hlt),cD _ _ _ (aB hlt)]
  exact q
 show au _ _ _ _ _ { s with heap:=((s.heap.push (bo "list" #[] 0)).update s.heap.objs.size (aT (· ++ its.toArray))).push (bo "list" its.toArray 0) }
 rw [hsz]
 refine aa (bN (cI mF ⟨_,ho,rfl⟩ me ?body (rN _)))
 case body =>
  generalize hh0:((s.heap.push (bo "list" #[] 0)).update s.heap.objs.size (aT (· ++ its.toArray))).push (bo "list" its.toArray 0)=h0 at ho keep
  generalize ha:s.heap.objs.size+1=a at ho h
  have aNew:∀b o,s.heap.get? b=some o->b≠a:=λb o q=>by have:=ay q;rw [<- ha];exact aB (cf this)
  show au (aC prog w) A.in1.in1 (dO.«list.sort» ⟨[.ref a],[]⟩) _ _ { s with heap:=h0 }
  rw [pL]
  have hal:a<h0.objs.size:=ay ho
  refine aa (lZ ho rfl ?_)
  refine aa (cM ho rfl ?_ (by rw [av,bt];omega) (aE _))
  obtain ⟨e1,ho1⟩:∃e1,(h0.update a (aT λ_=>(#[]:Array af))).get? a=some (bo "list" #[] e1):=⟨_,ee ho (λ_=>#[])⟩
  refine aa (eM ho1 rfl ?_)
  refine aa (fK ?_ (by show its.length<=_;rw [bt];omega))
  refine aa (fb ?_ (aE _))
  refine bN ?_
  have ho6:(((h0.update a (aT λ_=>(#[]:Array af))).push (bo "tuple" its.toArray 0)).push (bo "list" #[] 0)).get? a=some (bo "list" #[] e1):=by
   rw [cD _ _ _ (by rw [nJ,dG];exact aB (cf hal)),cD _ _ _ (by rw [dG];exact aB hal)]
   exact ho1
  have keep6:∀b o,s.heap.get? b=some o->(((h0.update a (aT λ_=>(#[]:Array af))).push (bo "tuple" its.toArray 0)).push (bo "list" #[] 0)).get? b=some o:=λb o q =>
   ai _ (ai _ ((bW _ _ _ _ (aNew b o q)).trans (keep b o q)))
  show au (aC prog w) A.in1.in1 _ _ _ { s with heap:=((h0.update a (aT λ_=>(#[]:Array af))).push (bo "tuple" its.toArray 0)).push (bo "list" #[] 0) }
  generalize ((h0.update a (aT λ_=>(#[]:Array af))).push (bo "tuple" its.toArray 0)).push (bo "list" #[] 0)=h6 at ho6 keep6
  dsimp only
  have fin:∀(ix:List Nat),ix.Perm (aF its.length)->G ix->∀out:Array af,out=(ix.map λi=>its.getD i aS).toArray ->
    ∃v,rO (Flow.ret aS) = .done (.ret v)/\au (aC prog w) A.in1 (do let _ <- pure v;ret (aQ a)) (λfin s'=>∃v,fin = .done (.ret v)/\Q v s') E { s with heap:=h6.update a (aT λ_=>out) }:=λix hp hg out ho'=>by
   refine ⟨_,rfl,aa (wpAny_pure (wpAny_pure ⟨_,rfl,?_⟩))⟩
   subst ho'
   exact h ix _ _ hp hg (λb o q=>(bW _ _ _ _ (aNew b o q)).trans (keep6 b o q)) (ee ho6 λ_=>_)
  by_cases h2:its.toArray.size<2
  ·rw [if_pos h2,if_pos h2]
   refine aa (wpAny_pure ?_)
   rw [mf]
   refine aa (wpAny_pure ?_)
   dsimp only
   refine aa (eM ho6 rfl ?_)
   rw [vC]
   refine aa (cM ho6 rfl ?_ (aE _) (by rw [av,bt];omega))
   simp only [bne_self_eq_false,cJ,if_false]
   rw [av] at h2
   exact wpAny_pure (fin _ (mG _) (h1 h2) _ (by rw [vo]))
  ·rw [if_neg h2,if_neg h2]
   rw [av] at h2
   refine aa (b7 (hk ∅ h6 keep6 (λκ' s'=>κ'=κ/\s'={ s with heap:=h6 }) ⟨rfl,rfl⟩) (λκ' s' q=>?_) λ_ _ x=>x.elim)
   obtain ⟨rfl,rfl⟩:=q
   refine aa (b7 (kat_run (ks:=its) (vs:=its) (κ:=κ') (G:=λp s'=>(qj its.length p/\G p.toList)/\s'={ s with heap:=h6 }) (Q:=λst' s'=>∃p:Array Nat,arrOf st'=p.map (sV (its.toArray.zip its.toArray))/\rP st'=none/\(qj its.length p/\G p.toList)/\s'={ s with heap:=h6 })
    rfl ∅ h64 (λp st' s' a1 a2 a3 a4=>⟨p,a2,a3,a4⟩) (qX.wp (I:=λs'=>s'={ s with heap:=h6 }) (λi j C s' hi hj hI hC=>?_) (λp s' hp hI=>⟨hp,hI⟩) (hs ∅) rfl)) ?_ λ_ _ e=>e)
   ·subst hI
    exact hc h6 keep6 i j hi hj C (hC _ rfl)
   ·rintro ⟨⟨⟩,st'⟩ s' ⟨p,har,hf,⟨hP,hG⟩,rfl⟩
    dsimp only
    have hout:=sW (ks:=its) (vs:=its) rfl har
    have hz:(oA (p.toList.map λi=>its.getD i aS)).size=its.length:=by rw [av,ah,bV,hP.size]
    rw [hout]
    refine aa (eM ho6 rfl ?_)
    refine aa (cM ho6 rfl ?_ (aE _) (by rw [hz,bt];omega))
    rw [hf]
    simp only [bne_self_eq_false,cJ,if_false]
    exact wpAny_pure (fin p.toList (by have:=Array.perm_iff_toList_perm.mp hP;simpa using this) hG _ rfl)
end
end L2
end
section
namespace L2
open PySem.W
noncomputable def vW (O:KeyOrd) (key:Nat->O.α) (vs out:List V):Prop:=∃ix:List Nat,ix.Perm (aF vs.length)/\out=(ix.map λi=>vs.getD i V.non)/\(ix.map key).Pairwise O.kle
theorem zf.pairwise {O:KeyOrd}{key:Nat->O.α}{p:Array Nat}{n:Nat}(hs:zf (O:=O) key p n) (hz:p.size=n):(p.toList.map key).Pairwise O.kle:=by
 rw [List.pairwise_iff_getElem]
 intro i j hi hj hij
 simp at hi hj
 have q:=hs i j (eO hij) ∅
 unfold kp at q
 have e1:p.getD i 0=p[i]:=by simp [nI,hi]
 have e2:p.getD j 0=p[j]:=by simp [nI,hj]
 rw [e1,e2] at q
 simpa using q
theorem hV:∀{vs:List V}{us:List af},jz vs us->∀i,jA (vs.getD i V.non) (us.getD i aS)
 | _,_,.nil,_=>rfl
 | _,_,.cons r _,0=>r
 | _,_,.cons _ t,i+1=>hV t i
theorem ug {vs:List V}{us:List af}(r:jz vs us):∀ix:List Nat,jz (ix.map λi=>vs.getD i V.non) (ix.map λi=>us.getD i aS)
 | []=>.nil
 | i::ix=>.cons (hV r i) (ug r ix)
theorem Yv {a b:Int}(h:Uh.kle a b):a<=b:=Int.not_lt.mp (of_decide_eq_false h)
noncomputable def yj (H:Hp) (vs:List V) (rows:List (List Int)):Prop:=cO (λv (r:List Int)=>∃a,v=V.ref a/\H a=some (.lst (r.map V.int))) vs rows
theorem Paired.get {α β:Type}{F:α->β->Prop}:∀{l₁:List α}{l₂:List β}{i:Nat}{x:α},cO F l₁ l₂->l₁[i]? = some x->∃y,l₂[i]? = some y/\F x y
 | _,_,_,_,.nil,e=>by simp at e
 | _,_,0,_,.cons r _,e=>by simp at e;subst e;exact ⟨_,rfl,r⟩
 | _,_,i+1,v,.cons _ t,e=>by
  obtain ⟨d,h1,h2⟩:=Paired.get (i:=i) (x:=v) t (by simpa using e)
  exact ⟨d,by simpa using h1,h2⟩
theorem xZ:∀{ns:List Int}{us:List af},jz (ns.map V.int) us->d6 us ns
 | [],_,.nil=>.nil
 | n::ns,_,.cons ⟨t,e⟩ r=>by subst e;exact .cons n t (xZ r)
section
variable {X:Cx}
theorem kL (K:ag) (hu:X.A.units+64<cLine) (hK:X.K=K:=by rfl):xb X (.builtin "sorted") (λxs H Q=>∃p vs rows,xs=[.ref p]/\SqL K H p vs/\vs.length<64/\yj H vs rows /\
  ∀l H' out,H l=none->H' l=some (.lst out)->jn H H'->vW uU (λi=>rows.getD i []) vs out->Q (.ref l) H'):=by
 subst hK
 intro pins s σ H xs us Q I r h
 obtain ⟨p,vs,rows,rfl,hq,h64,hr,k⟩:=h
 obtain ⟨u,rfl,ru⟩:=yW r
 cases ru
 obtain ⟨its,rv,pl,hz⟩:=I.list hq
 have hlen:its.length=vs.length:=rv.length.symm
 have item:∀i,i<its.length->∃a its' n,its.getD i aS = .ref a/\s.heap.get? a=some { cls:=.type "list",data:=.seq its'.toArray n }/\d6 its' (rows.getD i []):=λi hi=>by
  have e1:vs[i]? = some (vs[i]'∅):=ae ∅
  obtain ⟨y,e2,a,e3,e4⟩:=Paired.get hr e1
  obtain ⟨u,e5,ru⟩:=rv.get e1
  rw [e3] at ru
  cases ru
  obtain ⟨z,its',n,rv',e6⟩:=I.hok a _ e4
  refine ⟨a,its',n,by rw [ak,e5];rfl,e6,?_⟩
  rw [ak,e2]
  exact xZ rv'
 have hun:X.A.in1.in1.units<cLine:=by
  show X.A.units+1+1<cLine
  omega
 refine Xy (κ:=oneType') (lt:=ltK uU λi=>rows.getD i []) (G:=λix=>(ix.map λi=>rows.getD i []).Pairwise uU.kle) pl.isList ∅ (λh2 h' hk' Q' q=>?_) (λh' hk' i j hi hj Q' q=>?_) (λh2=>?_) (λh1=>?_) λix h' n hp hg hk' hn=>?_
 ·refine kas_kind (T:=.type "list") h2 (λv hv=>?_) rfl rfl q
  obtain ⟨i,hi,rfl⟩:=List.mem_iff_getElem.mp hv
  obtain ⟨a,its',n,e1,e2,_⟩:=item i hi
  have e3:its[i] = .ref a:=by rw [<- e1];simp [hi]
  rw [e3]
  exact (show Looks _ h' (oV (.ref a)) _ from (Looks.ld (hk' _ _ e2)).andThen .now)
 ·obtain ⟨a,its',n,e1,e2,e3⟩:=item i hi
  obtain ⟨b,its2,n2,f1,f2,f3⟩:=item j hj
  rw [e1,f1,keyLt'_oneType]
  exact Qv hun (hk' _ _ e2) (hk' _ _ f2) e3 f3 q
 ·exact wf ∅ λp' hP hS=>⟨hP,hS.pairwise hP.size⟩
 ·have hcase:its.length=0\/its.length=1:=∅
  rcases hcase with z | z
  ·rw [z];exact fI
  ·rw [z];exact fm _ _
 ·have hf:H (s.heap.objs.size+1)=none:=I.hok.fresh (fk _)
  refine ⟨.ref _,upd H (s.heap.objs.size+1) (.lst (ix.map λi=>vs.getD i V.non)),I.laid (t':=s.toks) hk' (fk _) ⟨?_,_,n,ug rv ix,hn⟩,rfl,k _ _ _ hf j5 (jn.new hf) ⟨ix,by rw [<- hlen];exact hp,rfl,hg⟩⟩
  rw [ah,hp.length_eq,bg]
  exact aG (by omega:its.length<=1000) ⋯
end
end L2
end
section
namespace L2
open PySem.W
noncomputable abbrev ud (qual:Str) (params:Arguments) (body:Expr) (scope:Scope) (pm:af) (c:Addr) (ctv:af):FuncData:=kla_fn "<lambda>" qual params body scope [] pm (.ref c) ctv
noncomputable def ZK (f:Addr) (fd:FuncData):HO:=.ext λh=>h.get? f=some { cls:=.type "function",data:=.func fd }
noncomputable def QP (c:Addr) (qual:Str):HO:=.ext λh=>h.CodeRec (.ref c) qual
noncomputable def Tab (H:Hp) (Pt:Addr) (pos:Pos) (qual:Str):Prop:=H Pt=some (.tbl #[])\/∃c',H Pt=some (.tbl #[bJ pos.line,bJ pos.col,.ref c'])/\H c'=some (QP c' qual)
theorem Tab.ne {H:Hp}{Pt:Addr}{pos:Pos}{qual:Str}(T:Tab H Pt pos qual):∃ps,H Pt=some (.tbl ps):=by
 rcases T with z | ⟨c',z,_⟩
 ·exact ⟨_,z⟩
 ·exact ⟨_,z⟩
theorem Tab.same {H H':Hp}{Pt:Addr}{pos:Pos}{qual:Str}(T:Tab H Pt pos qual) (s:jn H H'):Tab H' Pt pos qual:=by
 rcases T with z | ⟨c',z,y⟩
 ·exact .inl (s _ _ z)
 ·exact .inr ⟨c',s _ _ z,s _ _ y⟩
theorem Tab.ext {H H':Hp}{Pt b:Addr}{pos:Pos}{qual:Str}{xs:List V}(T:Tab H Pt pos qual) (hb:H b=some (.lst xs)) (e:Ext b H H'):Tab H' Pt pos qual:=by
 rcases T with z | ⟨c',z,y⟩
 ·exact .inl (e _ _ z (ji z hb (by intro q;cases q)))
 ·exact .inr ⟨c',e _ _ z (ji z hb (by intro q;cases q)),e _ _ y (ji y hb (by intro q;cases q))⟩
theorem Tab.extN {H H':Hp}{Pt b:Addr}{pos:Pos}{qual:Str}(T:Tab H Pt pos qual) (hb:H b=none) (e:Ext b H H'):Tab H' Pt pos qual:=T.same λc o h=>e c o h (j1 h hb)
noncomputable def Bm (mg:Str->Option af) (base:Heap):Prop:=∃bm ob,mg "__builtins__" = some (.ref bm)/\bm≠lO/\base.get? bm=some ob/\ob.cls = .type "module" /\ ob.dict=some lO/\ob.data = .plain
theorem Ua {P:Program}{w:aU}{K:ag}{mg:Str->Option af}{base:Heap}{k:Nat}{f c:Addr}{qual:Str}{params:Arguments}{body:Expr}{scope:Scope}{pm ctv:af}{N:List Str}{x:Str}{A:bb}{outer:List Env}{s:Shared}{H:Hp}{u:af}{v:V}{Q:VK}{t:TE}
  (ho:s.heap.get? f=some { cls:=.type "function",data:=.func (ud qual params body scope pm c ctv) }) (hcd:s.heap.CodeRec (.ref c) qual) (S:FnScope N [x] scope) (hr:Room (k+1) A) (e0:Env0 P w K mg base A outer s H)
  (hb:∀pm c ctv u,cA (ud qual params body scope pm c ctv) ⟨[u],[]⟩=pure [(x,u)]) (r:jA v u)
  (ht:PE (vd CX0 P w K mg base N qual scope f (.ref c) A outer s H E0).nox body t) (q:t (start N [v]) H Q) :
  d5 (aC P w) A (.call (.ref f) ⟨[u],[]⟩) (CR CX0 outer P w H s Q E0) s:=by
 have lim:s.heap.NoLimit:=e0.mod.nolimit.keeps λb o e=>(e0.bs b o e).1
 have hkind:∀y∈([x].zip [u]),scope.names.lookup y.1=some .local\/(scope.names.lookup y.1=some .cell/\((oS (s.heap.objs.size+1) scope.names []).lookup y.1).isSome=true):=λ⟨n,v⟩ hy=>by
  rcases S.par n (ik hy).1 with q | q
  ·exact .inl q
  ·exact .inr ⟨q,fG _ _ _ (.inl q)⟩
 refine kla_callFunE hr.depth ho rfl S.co S.gen rfl hcd ?_
 rw [hb]
 refine wpAny_pure (iO (binds:=[x].zip [u]) S.kind hkind λenv he s1 y=>?_)
 subst he
 refine ⟨lim.keeps y.toInCall.keep,kla_codeExpr ?_⟩
 have I:Inv (vd CX0 P w K mg base N qual scope f (.ref c) A outer s H E0) [] (start N [v]) H s1:=kW S hr.hd e0 rfl (Paired.cons r .nil) y
 refine b7 (ht.nox [] s1 (start N [v]) H _ I q) (λu' s' hs=>?_) λe s' hs=>hs
 obtain ⟨v',H',J,rv,q'⟩:=hs
 exact ⟨v',H',J.os,J.bare,J.base,J.hok,rv,q'⟩
section
variable {X:Cx}{pins:List (Addr×Obj)}{σ:St}{H:Hp}{s:Shared}
theorem Vo {E:af->Shared->Prop}{c Pt:Addr}{params:Arguments}{body:Expr}{scope:Scope}{pos:Pos}{Q:af->Shared->Prop}(I:Inv X pins σ H s) (hcode:X.env.code = .ref c) (CH:CodeHd X.base c Pt) (hB:Bm X.mg X.base)
  (hcl:nE scope X.env=pure []) (hdef:defaultsOf params X.env=([],[])) (T:Tab H Pt pos (X.env.qual ++ "<lambda>"))
  (k:∀f H' s' pm c' ctv,Inv X pins σ H' s'->H f=none->H' f=some (ZK f (ud (X.env.qual ++ "<lambda>") params body scope pm c' ctv))->H' c'=some (QP c' (X.env.qual ++ "<lambda>"))->Ext Pt H H'->Tab H' Pt pos (X.env.qual ++ "<lambda>")->Q (.ref f) s') :
  au (aC X.prog X.w) X.A (eval (.Lambda params body scope pos) X.env) Q E s:=by
 refine kla_eval hdef ?_
 obtain ⟨bm,ob,b1,b2,b3,b4,b5,b6⟩:=hB
 obtain ⟨ps0,hPt⟩:=T.ne
 have trk:∀{b:Addr} {o:Obj},X.base.get? b=some o->b≠Pt:=λ{b o} e z=>by
  have:=(I.bs b o e).2
  rw [z,hPt] at this;cases this
 have hgN:s.heap.Ns mainGlobals X.mg:=I.ok.mod.glob.keeps I.bk
 have hgP:mainGlobals≠Pt:=by
  obtain ⟨o,es,ep,e,_⟩:=I.ok.mod.glob
  exact trk e
 have hbG:bm≠mainGlobals:=λq=>by
  obtain ⟨o,es,ep,e,hd,_⟩:=I.ok.mod.glob
  rw [q,e] at b3;cases b3;rw [hd] at b6;cases b6
 have hBA:s.heap.BuiltinsAt X.mg Pt:=⟨bm,ob,b1,b2,hbG,trk b3,I.bk _ _ b3,b4,b5,b6⟩
 have LS:∀(f:Addr) (fd:FuncData) (h1 h2:Heap),h1.get? f=some { cls:=.type "function",data:=.func fd }->(∀o,h1.get? f=some o->h2.get? f=some o)->h2.get? f=some { cls:=.type "function",data:=.func fd }:=λf fd h1 h2 e m=>m _ e
 have CS:∀(c:Addr) (q:Str) (h1 h2:Heap),h1.CodeRec (.ref c) q->(∀o,h1.get? c=some o->h2.get? c=some o)->h2.CodeRec (.ref c) q:=λc q h1 h2 ⟨c',o,vs,t,e,g,r⟩ m=>by
  cases e
  exact ⟨c,o,vs,t,rfl,m _ g,r⟩
 rcases T with hT | ⟨c',hT,hC⟩
 ·have eT:s.heap.get? Pt=some (rf #[]):=I.hok Pt _ hT
  refine kla_makeFunction (mg:=X.mg) hcl I.ok.glob hgN hcode (CH.keeps I.bk) eT trivial rfl hgP hBA λc' ctv h' tk hx hge hlt hrec htb=>?_
  have hcN:H c'=none:=I.hok.fresh hge
  have hsz:s.heap.objs.size<=h'.objs.size:=eO (bO hge hlt)
  have hfN:H h'.objs.size=none:=I.hok.fresh hsz
  have neC:∀{b:Addr} {o:Obj},s.heap.get? b=some o->b≠c':=λ{b o} e=>aB (aN (ay e) hge)
  have neF:∀{b:Addr} {o:Obj},s.heap.get? b=some o->b≠h'.objs.size:=λ{b o} e=>aB (aN (ay e) hsz)
  have hPc:Pt≠c':=neC eT
  have hPf:Pt≠h'.objs.size:=neF eT
  have hcf:c'≠h'.objs.size:=aB hlt
  have e':h'.get? Pt=some (rf #[bJ pos.line,bJ pos.col,.ref c']):=by simpa using htb
  have getF:∀{b:Addr} {o:HO},H b=some o->b≠Pt->upd (upd (upd H Pt (.tbl #[bJ pos.line,bJ pos.col,.ref c'])) c' (QP c' (X.env.qual ++ "<lambda>"))) h'.objs.size (ZK h'.objs.size (ud (X.env.qual ++ "<lambda>") params body scope ((X.mg "__name__").getD .none) c' ctv)) b=some o:=λ{b o} e n=>by
   rw [j6 (j1 e hfN),j6 (j1 e hcN),j6 n];exact e
  have atP:upd (upd (upd H Pt (.tbl #[bJ pos.line,bJ pos.col,.ref c'])) c' (QP c' (X.env.qual ++ "<lambda>"))) h'.objs.size (ZK h'.objs.size (ud (X.env.qual ++ "<lambda>") params body scope ((X.mg "__name__").getD .none) c' ctv)) Pt=some (.tbl #[bJ pos.line,bJ pos.col,.ref c']):=by
   rw [j6 hPf,j6 hPc,j5]
  have atC:upd (upd (upd H Pt (.tbl #[bJ pos.line,bJ pos.col,.ref c'])) c' (QP c' (X.env.qual ++ "<lambda>"))) h'.objs.size (ZK h'.objs.size (ud (X.env.qual ++ "<lambda>") params body scope ((X.mg "__name__").getD .none) c' ctv)) c'=some (QP c' (X.env.qual ++ "<lambda>")):=by
   rw [j6 hcf,j5]
  refine k h'.objs.size (upd (upd (upd H Pt (.tbl #[bJ pos.line,bJ pos.col,.ref c'])) c' (QP c' (X.env.qual ++ "<lambda>"))) h'.objs.size (ZK h'.objs.size (ud (X.env.qual ++ "<lambda>") params body scope ((X.mg "__name__").getD .none) c' ctv))) _ ((X.mg "__name__").getD .none) c' ctv ?_ hfN j5 atC (λb o e n=>getF e n) (.inr ⟨c',atP,atC⟩)
  have kp1:∀b o,b≠Pt->s.heap.get? b=some o->(h'.push (kla_obj "<lambda>" (X.env.qual ++ "<lambda>") params body scope [] ((X.mg "__name__").getD .none) c' ctv)).get? b=some o:=λb o n e=>ai _ (hx b o n e)
  have nP:∀{b:Addr},H b=none->b≠Pt:=λ{b} e z=>by rw [z,hT] at e;cases e
  refine I.step (g':=s.gens) (d':=s.drawn) (ch:=[]) (λ_ z=>nomatch z) (λb o _ _ _ e n=>kp1 b o (nP n) e) (λb o _ _ _ e n=>⟨o.slots,kp1 b o (nP n) e⟩) (λb o _ e n=>?_) (λb o _ e=>?_) (λb xs e=>?_) (λb o u e=>?_) (λb ps e=>?_) (λm hm=>?_) (λb u e=>?_) I.bare
  ·rw [j6 (neF e),j6 (neC e),j6 (nP n)];exact n
  ·by_cases hb:b=Pt
   ·subst hb;exact ⟨_,ai _ e'⟩
   ·exact ⟨o,kp1 b o hb e⟩
  ·exact getF e (ji e hT (by intro z;cases z))
  ·exact getF e (ji e hT (by intro z;cases z))
  ·by_cases hb:b=Pt
   ·subst hb
    rw [hT] at e;cases e
    exact ⟨#[bJ pos.line,bJ pos.col,.ref c'],by rw [atP];simp⟩
   ·exact ⟨#[],by rw [getF e hb];simp⟩
  ·obtain ⟨o,es,ep,ho,r⟩:=hm
   exact ⟨o,es,ep,kp1 _ o (nP I.free) ho,r⟩
  ·by_cases h1:b=h'.objs.size
   ·subst h1
    rw [j5] at e;cases e
    exact ⟨az _ rfl,⟨_,az _ rfl⟩,λh1 h2 e m=>LS _ _ h1 h2 e m⟩
   ·by_cases h2:b=c'
    ·subst h2
     rw [atC] at e;cases e
     obtain ⟨c2,oc,vs,t,e2,hoc,r⟩:=id hrec
     cases e2
     exact ⟨hrec.keeps λb o e=>ai _ e,⟨_,ai _ hoc⟩,λh1 h2 e m=>CS _ _ h1 h2 e m⟩
    ·by_cases h3:b=Pt
     ·subst h3
      rw [atP] at e;cases e
      exact ai _ e'
     ·rw [j6 h1,j6 h2,j6 h3] at e
      refine (I.hok b u e).stay (λb' v hc q=>kp1 b' v ?_ q) (λb' q=>getF q (ji q hT (by intro z;cases z))) λb' xs q=>getF q (ji q hT (by intro z;cases z))
      rcases hc with z | z
      ·rw [z];exact h3
      ·exact ji z hT (by intro z;cases z)
 ·have eT:s.heap.get? Pt=some (rf #[bJ pos.line,bJ pos.col,.ref c']):=I.hok Pt _ hT
  have tri:TriplesOk (#[bJ pos.line,bJ pos.col,aQ c']:Array af).toList:=TriplesOk_snoc pos.line pos.col (.ref c') [] trivial
  have hit:codeAmong pos (#[bJ pos.line,bJ pos.col,aQ c']:Array af).toList=some (.ref c'):=codeAmong_snoc (c:=.ref c') [] trivial rfl
  refine kla_makeFunctionHit (mg:=X.mg) hcl I.ok.glob hgN hcode (CH.keeps I.bk) eT tri hit hBA λctv h' tk hk hsz=>?_
  have hfN:H h'.objs.size=none:=I.hok.fresh hsz
  refine k h'.objs.size (upd H h'.objs.size (ZK h'.objs.size (ud (X.env.qual ++ "<lambda>") params body scope ((X.mg "__name__").getD .none) c' ctv))) _ ((X.mg "__name__").getD .none) c' ctv ?_ hfN j5 (by rw [j6 (j1 hC hfN)];exact hC) (Ext.new hfN) (.inr ⟨c',by rw [j6 (j1 hT hfN)];exact hT,by rw [j6 (j1 hC hfN)];exact hC⟩)
  exact I.laid (λb o e=>ai _ (hk b o e)) hsz ⟨az _ rfl,⟨_,az _ rfl⟩,λh1 h2 e m=>LS _ _ h1 h2 e m⟩
theorem Inv.adopt {D:Addr}{ob:Obj}{o:HO}{h':Heap}{t':Nat}(I:Inv X ((D,ob)::pins) σ H s) (h1:X.s₀.heap.objs.size<=D) (h2:∀x c,X.env.cells.lookup x=some c->c≠D) (h3:∀p∈X.pn++pins,p.1≠D)
  (k:∀b u,b≠D->s.heap.get? b=some u->h'.get? b=some u) (new:jW X.prog X.w (upd H D o) h' D o):Inv X pins σ (upd H D o) { s with heap:=h',toks:=t' }:=by
 obtain ⟨eD,nD,lD,_,_⟩:=I.pin (D,ob) (aI _ aH)
 have I':Inv X pins σ H s:=I.pins_of λp hp=>I.pin p (aI _ (aD _ hp))
 have nit:∀b u,H b=some u->b≠D:=λb u e z=>by rw [z,nD] at e;cases e
 have getF:∀{b:Addr} {u:HO},H b=some u->upd H D o b=some u:=λ{b u} e=>by rw [j6 (nit b u e)];exact e
 refine I'.step (g':=s.gens) (d':=s.drawn) (ch:=[D]) (λb hb=>?_) (λb o _ _ hc e _=>k b o (λz=>hc (by simp [z])) e) (λb o _ _ hc e _=>⟨o.slots,k b o (λz=>hc (by simp [z])) e⟩) (λb o hc _ n=>by rw [j6 (λz=>hc (by simp [z]))];exact n)
  (λb o hc e=>⟨o,k b o (λz=>hc (by simp [z])) e⟩) (λ_ _ e=>getF e) (λ_ _ _ e=>getF e) (λb ps e=>⟨#[],by rw [getF e];simp⟩) (λm hm=>?_) (λb u e=>?_) I'.bare
 ·have e:b=D:=by simpa using hb
  subst e
  exact ⟨.inr h1,lD,h2,h3⟩
 ·obtain ⟨o,es,ep,ho,r⟩:=hm
  exact ⟨o,es,ep,k _ o (cq lD) ho,r⟩
 ·by_cases hb:b=D
  ·subst hb
   rw [j5] at e;cases e
   exact new
  ·rw [j6 hb] at e
   refine (I'.hok b u e).stay (λc v hc q=>k c v ?_ q) (λ_ q=>getF q) λ_ _ q=>getF q
   rcases hc with z | z
   ·rw [z];exact hb
   ·exact nit c _ z
end
end L2
end
section
namespace L2
open PySem.W
noncomputable def UL (H:Hp) (ks:List V) (keyf:Nat->List Int) (j:Nat):Prop:=ks.length=j/\∀i,i<j->∃q,ks[i]? = some (V.ref q)/\H q=some (.tup ((keyf i).map V.int))
theorem Qs {a b:List af}(h:a.length=b.length):(a.toArray.zip b.toArray).map (·.2)=b.toArray:=by
 apply Array.toList_inj.mp
 rw [oW,ksk_zip]
 show (a.zip b).map sR=b
 rw [oX]
 omega
section
variable {X:Cx}{pins:List (Addr×Obj)}{σ:St}{H:Hp}{s:Shared}
theorem Qh {E:af->Shared->Prop}{p f:Addr}{vs:List V}{keyf:Nat->List Int}{Q:af->Shared->Prop}(I:Inv X pins σ H s) (hq:SqL X.K H p vs) (h64:vs.length<64) (hne:∀i,i<vs.length->keyf i≠[])
  (hcall:∀i v,vs[i]? = some v->∀pins' s' H' u,Inv X pins' σ H' s'->jn H H'->jA v u->au (aC X.prog X.w) X.A.in1.in1 (call (.ref f) [u]) (EP X pins' σ λkv H''=>jn H' H''/\∃q,kv = .ref q/\H'' q=some (.tup ((keyf i).map V.int))) (λ_ _=>False) s')
  (k:∀l H' out s',Inv X pins σ H' s'->H l=none->H' l=some (.lst out)->jn H H'->vW uU keyf vs out->Q (.ref l) s') :
  au (aC X.prog X.w) X.A (call (.builtin "sorted") [.ref p] [(aj "key",.ref f)]) Q E s:=by
 obtain ⟨its,rv,pl,hz⟩:=I.list hq
 have hlen:its.length=vs.length:=rv.length.symm
 refine call_function_entry_kw pI ow oz (ksk_s1 _ _) ?_
 unfold dO.«sorted»
 refine aa (m:=rM "sorted" 1 1 _) (wpAny_pure ?_)
 refine aa (collect_list pl.isList ?_ (by rw [bt];omega))
 refine aa (fb ?_ (by rw [bt];omega))
 have hsz:((s.heap.push (bo "list" #[] 0)).update s.heap.objs.size (aT (· ++ its.toArray))).objs.size=s.heap.objs.size+1:=by
  rw [dG,nJ]
 have ho:(((s.heap.push (bo "list" #[] 0)).update s.heap.objs.size (aT (· ++ its.toArray))).push (bo "list" its.toArray 0)).get? (s.heap.objs.size+1)=some (bo "list" its.toArray 0):=by
  rw [<- hsz];exact az _ rfl
 have keep:∀b o,s.heap.get? b=some o->(((s.heap.push (bo "list" #[] 0)).update s.heap.objs.size (aT (· ++ its.toArray))).push (bo "list" its.toArray 0)).get? b=some o:=λb o q=>by
  have hlt:b<s.heap.objs.size:=ay q
  rw [cD _ _ _ (by rw [hsz];exact aB (cf hlt)),bW _ _ _ _ (aB hlt),cD _ _ _ (aB hlt)]
  exact q
 show au _ _ _ _ _ { s with heap:=((s.heap.push (bo "list" #[] 0)).update s.heap.objs.size (aT (· ++ its.toArray))).push (bo "list" its.toArray 0) }
 rw [hsz]
 refine aa (bN (wpAny_call_entry_kw mF ⟨_,ho,rfl⟩ me ?body (ksk_l1 _ _)))
 case body =>
  generalize ((s.heap.push (bo "list" #[] 0)).update s.heap.objs.size (aT (· ++ its.toArray))).push (bo "list" its.toArray 0)=h0 at ho keep
  generalize ha:s.heap.objs.size+1=a at ho
  have hDs:s.heap.objs.size<=a:=by rw [<- ha];exact fk _
  have aNew:∀b o,s.heap.get? b=some o->b≠a:=λb o q=>by have:=ay q;rw [<- ha];exact aB (cf this)
  show au (aC X.prog X.w) X.A.in1.in1 (dO.«list.sort» ⟨[.ref a],[(aj "key",.ref f)]⟩) _ _ { s with heap:=h0 }
  rw [ksk_t1]
  unfold ksk_tree
  have hal:a<h0.objs.size:=ay ho
  refine aa (lZ ho rfl ?_)
  refine aa (cM ho rfl ?_ (by rw [av,bt];omega) (aE _))
  obtain ⟨e1,ho1⟩:∃e1,(h0.update a (aT λ_=>(#[]:Array af))).get? a=some (bo "list" #[] e1):=⟨_,ee ho (λ_=>#[])⟩
  refine aa (eM ho1 rfl ?_)
  refine aa (fK ?_ (by show its.length<=_;rw [bt];omega))
  refine aa (fb ?_ (aE _))
  refine bN ?_
  have ho5:((h0.update a (aT λ_=>(#[]:Array af))).push (bo "tuple" its.toArray 0)).get? a=some (bo "list" #[] e1):=ai _ ho1
  have keep5:∀b o,s.heap.get? b=some o->((h0.update a (aT λ_=>(#[]:Array af))).push (bo "tuple" its.toArray 0)).get? b=some o:=λb o q =>
   ai _ ((bW _ _ _ _ (aNew b o q)).trans (keep b o q))
  show au (aC X.prog X.w) X.A.in1.in1 (ksk_rest a (.ref f) false its.toArray e1 (.ref ((h0.update a (aT λ_=>(#[]:Array af))).push (bo "tuple" its.toArray 0)).objs.size)) _ _
   { s with heap:=((h0.update a (aT λ_=>(#[]:Array af))).push (bo "tuple" its.toArray 0)).push (bo "list" #[] 0) }
  generalize (h0.update a (aT λ_=>(#[]:Array af))).push (bo "tuple" its.toArray 0)=h5 at ho5 keep5
  have I5:Inv X pins σ H { s with heap:=h5,toks:=s.toks }:=I.kept keep5
  have hHa:H a=none:=I.hok.fresh hDs
  have hHk:H h5.objs.size=none:=I5.hok.fresh (ao _)
  have hLoc:a≠X.env.locals:=λz=>by
   obtain ⟨m,⟨o,es,ep,e,_⟩,_⟩:=I.loc
   exact aNew _ _ e z.symm
  have hFs:a∉X.fs:=I.nofs hDs
  have hCell:∀x c,X.env.cells.lookup x=some c->c≠a:=λx c e=>by
   obtain ⟨v,o,e2,_⟩:=I.cell x c e
   exact aNew c o e2
  have hPins:∀q∈X.pn++pins,q.1≠a:=λq hq=>aNew _ _ (I.pin q hq).1
  have I6:Inv X ((a,bo "list" #[] e1)::pins) σ (upd H h5.objs.size (.lst [])) { s with heap:=h5.push (bo "list" #[] 0),toks:=s.toks }:=by
   refine Inv.pins_of (I5.lnew (its:=[]) (ys:=[]) .nil (aE _)) λq hq=>?_
   rcases List.mem_cons.mp hq with rfl | hq
   ·refine ⟨ai _ ho5,?_,hLoc,hFs,λv=>by intro z;cases z⟩
    rw [j6 (aB (ay ho5))]
    exact hHa
   ·have J:=(I5.lnew (its:=[]) (ys:=[]) (t':=s.toks) .nil (aE _)).pin q (aI _ hq)
    exact J
  unfold ksk_rest
  refine aa (fY ?_)
  first
   | rw [List.forIn_toArray]
   | (rw [<- nK];simp only [List.toList_toArray])
   | rw [<- nK]
  refine aa (ksk_fold (λj s'=>∃H' ks,Inv X ((a,bo "list" #[] e1)::pins) σ H' s'/\jn H H'/\H' h5.objs.size=some (.lst ks)/\UL H' ks keyf j) its 0 _
   ⟨_,[],I6,jn.new hHk,j5,rfl,λi hi=>absurd hi (pM _)⟩ (λj x s' hx hJ=>?_) λs' hJ=>?_)
  ·-- a key
   rw [m6] at hJ ⊢
   obtain ⟨H',ks,J,sm,hk,hl,hks⟩:=hJ
   have hj:j<its.length:=(List.getElem?_eq_some_iff.mp hx).1
   have hv:vs[j]? = some (vs[j]'∅):=ae ∅
   obtain ⟨u,e5,ru⟩:=rv.get hv
   rw [hx] at e5
   cases e5
   refine aa (i8 (b7 (hcall j _ hv _ s' H' x J sm ru) (λkv s'' hk2=>?_) λ_ _ hF=>hF.elim))
   obtain ⟨kv',H'',J2,rk,sm2,q,rfl,hqq⟩:=hk2
   dsimp only
   have hk':=sm2 _ _ hk
   obtain ⟨z,itk,n,rvk,hlk,ek⟩:=J2.lstM hk'
   refine aa (cM ek rfl ?_ (by rw [av,<- hlk,hl,bt];omega) (aG (nW (Array.size_push ..)) (by rw [av,<- hlk,hl,bt];omega)))
   refine wpAny_pure ⟨rfl,_,ks++[.ref q],J2.lset (t':=s''.toks) (its':=itk++[kv]) hk' ek (by simp) (rvk.append (.cons rk .nil)) (by rw [aq,b9,hl];exact aG (by omega:j+1<=1000) ⋯),λb o e=>?_,j5,?_,λi hi=>?_⟩
   ·rw [j6 (j1 e hHk)]
    exact sm2 _ _ (sm _ _ e)
   ·rw [aq,b9,hl]
   ·by_cases hij:i<j
    ·obtain ⟨q',e6,e7⟩:=hks i hij
     refine ⟨q',by rw [c8 ∅];exact e6,?_⟩
     have e8:=sm2 _ _ e7
     rw [j6 (ji e8 hk' (by intro z;cases z))]
     exact e8
    ·have:i=j:=∅
     subst this
     refine ⟨q,by rw [bK ∅,hl];simp,?_⟩
     rw [j6 (ji hqq hk' (by intro z;cases z))]
     exact hqq
  ·-- behind the keys
   rw [m6] at hJ
   obtain ⟨H',ks,J,sm,hk,hl,hks⟩:=hJ
   obtain ⟨z,itk,n,rvk,hlk,ek⟩:=J.lstM hk
   have hlk':itk.length=its.length:=∅
   refine aa (lZ ek rfl ?_)
   obtain ⟨eD,nD,_⟩:=J.pin (a,bo "list" #[] e1) (aI _ aH)
   have hak:a≠h5.objs.size:=λz=>by rw [z,hk] at nD;cases nD
   have keyAt:∀i,i<its.length->∃q itq o m,itk.getD i aS = .ref q/\s'.heap.get? q=some o/\o.cls = .type "tuple" /\ o.data = .seq itq.toArray m/\d6 itq (keyf i):=λi hi=>by
    obtain ⟨q,e6,e7⟩:=hks i hi
    obtain ⟨u,e8,ru⟩:=rvk.get e6
    cases ru
    obtain ⟨zz,itq,rq,o,e9,ec,m,ed⟩:=J.hok q _ e7
    exact ⟨q,itq,o,m,by rw [ak,e8];rfl,e9,ec,ed,xZ rq⟩
   have fin:∀(ix:List Nat) (st':SortSt),ix.Perm (aF its.length)->(ix.map keyf).Pairwise uU.kle->rP st'=none->(arrOf st').map (·.2)=(ix.map λi=>its.getD i aS).toArray ->
     au (aC X.prog X.w) X.A.in1.in1 (ksk_tail a false e1 (.ref h5.objs.size) st') (λfin s'=>∃v,fin = .done (.ret v)/\au (aC X.prog X.w) X.A.in1 (do let _ <- pure v;ret (aQ a)) (λfin s'=>∃v,fin = .done (.ret v)/\Q v s') E s') E s':=by
    intro ix st' hp hg hf hout
    unfold ksk_tail
    dsimp only
    rw [hout]
    have hol:(ix.map λi=>its.getD i aS).length<64:=by rw [ah,hp.length_eq,bg];omega
    refine aa (cM ek rfl ?_ (by rw [av,hlk',bt];omega) (aE _))
    refine aa (mH ?_)
    have J2:Inv X ((a,bo "list" #[] e1)::pins) σ (upd H' h5.objs.size (.lst [])) { s' with heap:=s'.heap.update h5.objs.size (aT λ_=>(#[]:Array af)),toks:=s'.toks }:=J.lset (its':=[]) (ys:=[]) hk ek rfl .nil (aE _)
    have eD2:(s'.heap.update h5.objs.size (aT λ_=>(#[]:Array af))).get? a=some (bo "list" #[] e1):=(bW _ _ _ _ hak).trans eD
    refine aa (eM eD2 rfl ?_)
    refine aa (cM eD2 rfl ?_ (aE _) (by simp only [cJ,if_false];rw [av,bt];omega))
    rw [hf]
    simp only [bne_self_eq_false,cJ,if_false]
    refine wpAny_pure ⟨_,rfl,aa (wpAny_pure (wpAny_pure ⟨_,rfl,?_⟩))⟩
    have eo:∃n,((s'.heap.update h5.objs.size (aT λ_=>(#[]:Array af))).update a (aT λ_=>(ix.map λi=>its.getD i aS).toArray)).get? a=some (bo "list" (ix.map λi=>its.getD i aS).toArray n):=⟨_,ee eD2 λ_=>_⟩
    obtain ⟨n',eo⟩:=eo
    have J3:=J2.adopt (o:=.lst (ix.map λi=>vs.getD i V.non)) (t':=s'.toks) (aG I.sz hDs) hCell hPins
     (h':=(s'.heap.update h5.objs.size (aT λ_=>(#[]:Array af))).update a (aT λ_=>(ix.map λi=>its.getD i aS).toArray)) (λb u n e=>(bW _ _ _ _ n).trans e) ⟨by rw [ah,hp.length_eq,bg];exact aG (by omega:its.length<=1000) ⋯,_,n',ug rv ix,eo⟩
    refine k a _ _ _ J3 hHa j5 (λb o e=>?_) ⟨ix,by rw [<- hlen];exact hp,rfl,hg⟩
    rw [j6 (j1 e hHa),j6 (j1 e hHk)]
    exact sm _ _ e
   unfold ksk_end
   dsimp only
   simp only [cJ,if_false]
   by_cases h2:its.toArray.size<2
   ·rw [if_pos h2,if_pos h2]
    refine aa (wpAny_pure ?_)
    rw [mf]
    refine aa (wpAny_pure ?_)
    dsimp only
    rw [av] at h2
    refine fin (aF its.length) _ (mG _) ?_ rfl ?_
    ·have hcase:its.length=0\/its.length=1:=∅
     rcases hcase with z | z
     ·rw [z];exact fI
     ·rw [z];exact fm _ _
    ·rw [vo]
     exact Qs hlk'
   ·rw [if_neg h2,if_neg h2]
    rw [av] at h2
    have tups:∃fs,KatTups s'.heap itk fs/\0<fs.length/\∀v∈fs,Looks (aC X.prog X.w) s'.heap (oV v) (.type "int"):=by
     have go:∀(l:List af),(∀i,i<l.length->∃q itq o m ns,l.getD i aS = .ref q/\s'.heap.get? q=some o/\o.cls = .type "tuple" /\ o.data = .seq (oA itq) m/\d6 itq ns/\ns≠[]) ->
       ∃fs,KatTups s'.heap l fs/\fs.length=l.length/\∀v∈fs,Looks (aC X.prog X.w) s'.heap (oV v) (.type "int"):=by
      intro l
      induction l with
      | nil=>intro _;exact ⟨[],.nil,rfl,λ_ h=>nomatch h⟩
      | cons v l ih =>
       intro h
       obtain ⟨fs,t,e,lk⟩:=ih λi hi=>h (i+1) (by rw [bj];omega)
       obtain ⟨q,itq,o,m,ns,e1,e2,e3,e4,e5,e6⟩:=h 0 (by rw [bj];omega)
       have e1':v = .ref q:=e1
       subst e1'
       cases e5 with
       | nil=>exact absurd rfl e6
       | cons n t' r =>
        refine ⟨.int n t'::fs,KatTups.cons e2 e3 e4 (by simp) t,by rw [bj,bj,e],λv hv=>?_⟩
        rcases List.mem_cons.mp hv with rfl | hv
        ·exact sr rfl
        ·exact lk v hv
     obtain ⟨fs,t,e,lk⟩:=go itk λi hi=>by
      obtain ⟨q,itq,o,m,a1,a2,a3,a4,a5⟩:=keyAt i ∅
      exact ⟨q,itq,o,m,keyf i,a1,a2,a3,a4,a5,hne i ∅⟩
     exact ⟨fs,t,∅,lk⟩
    obtain ⟨fs,t,hfs,lk⟩:=tups
    refine aa (kat_kind (T:=.type "int") t hfs lk rfl ?_)
    rw [show (fU "int" != fU "tuple")=true from rfl]
    refine aa (b7 (kat_run (ks:=itk) (vs:=its) (κ:=tuples' true) (G:=λp s2=>(qj its.length p/\(p.toList.map keyf).Pairwise uU.kle)/\s2=s') (Q:=λst' s2=>∃p:Array Nat,arrOf st'=p.map (sV (itk.toArray.zip its.toArray))/\rP st'=none/\(qj its.length p/\(p.toList.map keyf).Pairwise uU.kle)/\s2=s')
     hlk' ∅ ∅ (λp st' s' a1 a2 a3 a4=>⟨p,a2,a3,a4⟩) (qX.wp (lt:=ltK uU keyf) (n:=its.length) (I:=λs2=>s2=s') (λi j C s2 hi hj hI hC=>?_) (λp s2 hp hI=>⟨hp,hI⟩) (wf ∅ λp' hP hS=>⟨hP,hS.pairwise hP.size⟩) rfl)) ?_ λ_ _ e=>e)
    ·subst hI
     obtain ⟨q,itq,o,m,a1,a2,a3,a4,a5⟩:=keyAt i hi
     obtain ⟨q',itq',o',m',b1,b2,b3,b4,b5⟩:=keyAt j hj
     unfold kas_ask
     rw [a1,b1]
     exact XE a2 a4 b2 b4 a5 b5 (hC _ rfl)
    ·rintro ⟨⟨⟩,st'⟩ s2 ⟨p,har,hf,⟨hP,hG⟩,rfl⟩
     dsimp only
     exact fin p.toList st' (by have:=Array.perm_iff_toList_perm.mp hP;simpa using this) hG hf (sW hlk' har)
end
end L2
end
section
namespace L2
open PySem.W
section
variable {prog:Program}{w:aU}{A:bb}{E:af->Shared->Prop}{s:Shared}
theorem QN (n:Nat):c9 none none (-1) (n:Int)=((n:Int)-1,-1):=by
 unfold c9
 simp
theorem Xj (n:Nat):bH ((n:Int)-1) (-1) (-1)=n:=by
 unfold bH
 have h1:¬((-1:Int) > 0):=⋯
 simp only [h1,if_false]
 by_cases h:n=0
 ·subst h;simp
 ·rw [show (- -1:Int)=1 by decide]
  simp only [Int.ediv_one]
  split <;> omega
theorem uk {sl:Addr}{v3:af}{n:Nat}{Q:Int×Int×Nat->Shared->Prop}(hs:s.heap.IsSliceOf sl .none .none v3) (pk:lT v3 (some (-1)))
  (h:Q ((n:Int)-1,-1,n) s):au (aC prog w) A (di (.ref sl) (pure (n:Int))) Q E s:=by
 obtain ⟨os,hos,hcs,hds⟩:=id hs
 unfold di iT
 refine aa (aa (bC hos hds (x:=.none) rfl (aa (bC hos hds (x:=.none) rfl (aa (bC hos hds (x:=v3) rfl (wpAny_pure ?_)))))))
 refine aa (HT.slicePart_ pk ?_)
 show au _ _ (if ((-1:Int) == 0)=true then _ else _) _ _ s
 rw [if_neg ⋯]
 refine aa (HT.slicePart_ .none (aa (HT.slicePart_ .none (aa (wpAny_pure ?_)))))
 show au _ _ (match c9 none none (-1) (n:Int) with | (lo,hi)=>pure (lo,(-1:Int),bH lo hi (-1))) _ _ s
 rw [QN n]
 show au _ _ (pure ((n:Int)-1,(-1:Int),bH ((n:Int)-1) (-1) (-1))) _ _ s
 rw [Xj]
 exact wpAny_pure h
theorem V5 (xs:Array af):((aF xs.size).filterMap λ(m:Nat)=>xs[(((xs.size:Int)-1)+(m:Int) * -1).toNat]?).toArray=xs.toList.reverse.toArray:=by
 have e:((aF xs.size).filterMap λ(m:Nat)=>xs[(((xs.size:Int)-1)+(m:Int) * -1).toNat]?)=((aF xs.size).map λk=>xs.size-1-k).filterMap (xs[·]?):=by
  rw [nv]
  congr 1
  funext m
  show xs[(((xs.size:Int)-1)+(m:Int) * -1).toNat]? = xs[xs.size-1-m]?
  congr 1
  omega
 rw [e,krv_range,List.filterMap_reverse,krv_all]
theorem vA {t sl:Addr}{items:Array af}{v3:af}{Q:af->Shared->Prop}(ht:IsTup s.heap t items) (hs:s.heap.IsSliceOf sl .none .none v3) (pk:lT v3 (some (-1)))
  (h:Q (.ref s.heap.objs.size) { s with heap:=s.heap.push { cls:=.type "tuple",data:=.seq items.toList.reverse.toArray } }) (hsz:items.size<=sizeLine):au (aC prog w) A (iE (.ref t) (.ref sl)) Q E s:=by
 have htake:sizeOk (.seq items.toList.reverse.toArray):=by
  show items.toList.reverse.toArray.size<=sizeLine
  rw [av,iD,bV]
  exact hsz
 obtain ⟨os,hos,hcs,hds⟩:=id hs
 have hTs:s.TypeIs (.ref sl) "slice":=⟨os,hos,hcs⟩
 unfold iE
 try with_reducible refine bN ?_
 first | refine aa (wpAny_pure ?_) | skip
 refine aa (oj ht.typeIs ⋯ ?_)
 refine aa (bL (name:=aj "__getitem__") ht.typeIs cG
  (cI cG ht.typeIs mX ?_ (nA _ _)))
 show au _ _ (iP (.ref t) >>= _) _ _ s
 refine aa (sf ht ?_)
 refine aa (lU hTs ?_)
 rw [if_pos ⋯]
 refine aa (uk hs pk ?_)
 show au _ _ (if (((items.size:Int)-1) == 0 && (-1:Int) == 1 && items.size == items.size)=true then _ else _) _ _ s
 rw [if_neg (by simp),V5]
 first
  | exact aa (m:=bI _) (bx (wpAny_pure ⟨_,rfl,wpAny_pure h⟩) htake)
  | exact aa (m:=bI _) (bx (aa (wpAny_pure (wpAny_pure ⟨_,rfl,wpAny_pure h⟩))) htake)
  | exact aa (aa (m:=bI _) (bx (wpAny_pure (wpAny_pure ⟨_,rfl,wpAny_pure h⟩)) htake))
  | exact aa (aa (m:=bI _) (bx (wpAny_pure ⟨_,rfl,wpAny_pure h⟩) htake))
end
section
variable {X:Cx}{e:Expr}{te:TE}{pos p2 p3 p4:Pos}{j3:Nat}
noncomputable def WX (K:ag) (te:TE):TE:=λσ H Q=>te σ H λx H2=>∃a xs,x = .ref a/\SqT K H2 a xs/\New H2 (.tup xs.reverse) Q
noncomputable def WO (K:ag) (te:TE):TE:=λσ H Q=>te σ H λx H2=>∃a xs,x = .ref a/\SqL K H2 a xs/\New H2 (.lst xs.reverse) Q
theorem VL (K:ag) (he:PE X e te) (hK:X.K=K:=by rfl):PE X (.Subscript e (.Slice none none (some (.UnaryOp .USub (.Constant (.int 1) j3 p3) p4)) p2) pos) (WX K te):=by
 subst hK
 intro pins s σ H Q I h
 refine lV (thn (he pins s σ H _ I h) λv s1 ⟨x,H1,I1,r1,q1⟩=>?_)
 refine pE ?_
 rw [lu]
 refine wpAny_pure ?_
 refine wpAny_pure ?_
 rw [mZ]
 obtain ⟨a,xs,rfl,hx,q⟩:=q1
 refine thn (wm ve j7 pins s1 σ H1 (λy H2=>y = .int (-1)/\H2=H1) I1 ⟨_,rfl,rfl,rfl⟩) λu s3 ⟨y,H3,I3,ry,ey,eH⟩=>?_
 subst ey eH
 obtain ⟨tk,rfl⟩:=ry
 cases r1
 have I4:Inv X pins σ H3 { s3 with heap:=s3.heap.push { cls:=.type "slice",data:=.fields #[.none,.none,.int (-1) tk] } }:=I3.kept (t':=s3.toks) λb ob q=>ai _ q
 obtain ⟨its,r,ht,hz⟩:=I4.tuple hx
 have hlen:its.toArray.size=xs.length:=by rw [av];exact r.length.symm
 show au (aC X.prog X.w) X.A (i6 e (.Slice none none (some (.UnaryOp .USub (.Constant (.int 1) j3 p3) p4)) p2) (.ref a) (.ref s3.heap.objs.size)) (EP X pins σ Q) X.xe { s3 with heap:=s3.heap.push { cls:=.type "slice",data:=.fields #[.none,.none,.int (-1) tk] } }
 refine sP (ops:=[.ref a,.ref s3.heap.objs.size]) ht.typeIs PyProof.Rows.slot_tuple_getitem.lookup ?_ (by with_unfolding_all rfl)
 refine vA ht (iQ ..) (.int _ _) ?_ (by rw [hlen];exact hz)
 have hf:=I4.hok.fresh (ao _)
 refine ⟨.ref _,_,I4.laid (t':=s3.toks) (o:=.tup xs.reverse) (λb ob q=>ai _ q) (ao _) ?_,rfl,q.at _ hf⟩
 exact ⟨by rw [iD];exact hz,_,r.reverse,sy _ _⟩
theorem Vx (K:ag) (he:PE X e te) (hK:X.K=K:=by rfl):PE X (.Subscript e (.Slice none none (some (.UnaryOp .USub (.Constant (.int 1) j3 p3) p4)) p2) pos) (WO K te):=by
 subst hK
 intro pins s σ H Q I h
 refine lV (thn (he pins s σ H _ I h) λv s1 ⟨x,H1,I1,r1,q1⟩=>?_)
 refine pE ?_
 rw [lu]
 refine wpAny_pure ?_
 refine wpAny_pure ?_
 rw [mZ]
 obtain ⟨a,xs,rfl,hx,q⟩:=q1
 refine thn (wm ve j7 pins s1 σ H1 (λy H2=>y = .int (-1)/\H2=H1) I1 ⟨_,rfl,rfl,rfl⟩) λu s3 ⟨y,H3,I3,ry,ey,eH⟩=>?_
 subst ey eH
 obtain ⟨tk,rfl⟩:=ry
 cases r1
 have I4:Inv X pins σ H3 { s3 with heap:=s3.heap.push { cls:=.type "slice",data:=.fields #[.none,.none,.int (-1) tk] } }:=I3.kept (t':=s3.toks) λb ob q=>ai _ q
 obtain ⟨its,r,ht,hz⟩:=I4.list hx
 have hlen:its.length=xs.length:=r.length.symm
 show au (aC X.prog X.w) X.A (i6 e (.Slice none none (some (.UnaryOp .USub (.Constant (.int 1) j3 p3) p4)) p2) (.ref a) (.ref s3.heap.objs.size)) (EP X pins σ Q) X.xe { s3 with heap:=s3.heap.push { cls:=.type "slice",data:=.fields #[.none,.none,.int (-1) tk] } }
 refine sP (ops:=[.ref a,.ref s3.heap.objs.size]) ht.isList.typeIs slot_list_getitem.lookup ?_ (by with_unfolding_all rfl)
 refine lx ht.isList (iQ ..) .none .none (.int _ _) ⋯ ?_ (by rw [av];omega)
 rw [krv_pick]
 have hf:=I4.hok.fresh (ao _)
 refine ⟨.ref _,_,I4.laid (t':=s3.toks) (o:=.lst xs.reverse) (λb ob q=>ai _ q) (ao _) ?_,rfl,q.at _ hf⟩
 exact ⟨by rw [iD];exact hz,_,0,r.reverse,az _ rfl⟩
end
theorem SqL.extT {K:ag}{Pt a:Addr}{H H':Hp}{xs:List V}{ps:Array af}(hp:H Pt=some (.tbl ps)) (x:Ext Pt H H') (h:SqL K H a xs):SqL K H' a xs:=by
 rcases h with (h | ⟨o,h⟩) | h
 ·exact .inl (.inl (x _ _ h (ji h hp (by intro z;cases z))))
 ·exact .inl (.inr ⟨o,x _ _ h (ji h hp (by intro z;cases z))⟩)
 ·exact .inr h
section
variable {X:Cx}{e body:Expr}{ta:TA}{tb:TE}{params:Arguments}{scope:Scope}{lpos kpos p pos:Pos}{N:List Str}{x:Str}{c Pt:Addr}{k:Nat}
noncomputable def Wf (K:ag) (Pt:Addr) (lpos:Pos) (qual:Str) (N:List Str) (ta:TA) (tb:TE):TE:=λσ H Q=>ta σ H λxs H1=>Tab H1 Pt lpos qual/\∃(p:Addr) (vs:List V) (keyf:Nat->List Int),xs=[.ref p]/\SqL K H1 p vs/\vs.length<64/\(∀i,i<vs.length->keyf i≠[]) /\
 (∀H2,Ext Pt H1 H2->∀i v,vs[i]? = some v->tb (start N [v]) H2 λkv H3=>jn H2 H3/\∃q,kv = .ref q/\H3 q=some (.tup ((keyf i).map V.int))) /\
 ∀l H2 out,H1 l=none->H2 l=some (.lst out)->Ext Pt H1 H2->Tab H2 Pt lpos qual->vW uU keyf vs out->Q (.ref l) H2
theorem Xs (hg:Gl X "sorted") (hm:X.mg "sorted" = none) (ha:PA X [e] ta) (hcode:X.env.code = .ref c) (CH:CodeHd X.base c Pt) (hB:Bm X.mg X.base) (hr:Room (k+3) X.A) (S:FnScope N [x] scope)
  (hb:∀pm c ctv u,cA (ud (X.env.qual ++ "<lambda>") params body scope pm c ctv) ⟨[u],[]⟩=pure [(x,u)])
  (hbody:∀f c' s H,PE (vd CX0 X.prog X.w X.K X.mg X.base N (X.env.qual ++ "<lambda>") scope f (.ref c') X.A.in1.in1 X.stack s H E0).nox body tb)
  (hcl:nE scope X.env=pure []:=by rfl) (hdef:defaultsOf params X.env=([],[]):=by rfl)
  (he:cF pos (aK [e] X.env)=(false,eval e X.env)::cF pos (aK [] X.env):=by rfl) (hplain:(cF pos (aK [e] X.env)).any (·.1)=false:=by rfl) :
  PE X (.Call (.Name "sorted" p) [e] [⟨some (aj "key"),.Lambda params body scope lpos,kpos⟩] pos) (Wf X.K Pt lpos (X.env.qual ++ "<lambda>") N ta tb):=by
 intro pins s σ H Q I h
 refine dg (y7 I hg hm pJ ?_ ⋯ ⋯)
 refine callWith_kw (thn (ha pos pins s σ H _ I h) λus s1 ⟨vs,H1,I1,r,q⟩=>?_) he hplain
 show au _ _ (evalAll ((do let v <- eval (.Lambda params body scope lpos) X.env;fD pos;pure v)::[])) _ _ s1
 obtain ⟨T,a,xs,keyf,e1,hx,h64,hne,hkey,hq⟩:=q
 subst e1
 obtain ⟨u0,rfl,ru⟩:=yW r
 cases ru
 obtain ⟨ps0,hPt⟩:=T.ne
 refine wpAny_evalAll_cons (aa (Vo I1 hcode CH hB hcl hdef T λf H2 s2 pm c' ctv I2 hf hf2 hc2 X2 T2=>aa (de (wpAny_pure (wpAny_evalAll_nil ?_)))))
 show au _ _ (call (.builtin "sorted") [.ref a] [(aj "key",.ref f)]) _ _ s2
 refine Qh I2 (SqL.extT hPt X2 hx) h64 hne (λi v hv pins' s' H' u I' sm ru=>?_) λl H3 out s' I3 hl hl3 sm hs=>?_
 ·have X3:Ext Pt H1 H':=X2.trans (Ext.of_same sm)
  obtain ⟨ho,_⟩:=I'.hok f _ (sm _ _ hf2)
  obtain ⟨hcd,_⟩:=I'.hok c' _ (sm _ _ hc2)
  refine lR (dz (Ua (k:=k) ho hcd S (hr.in1.in1) I'.env0.in1.in1 hb ru (hbody f c' s' H') (hkey H' X3 i v hv)) λr s'' hq=>?_)
  cases r with
  | error e=>exact bA hq
  | ok fl =>
   cases fl with
   | ret u=>exact I'.after hq
   | next=>exact bA hq
   | brk=>exact bA hq
   | cont=>exact bA hq
 ·exact ⟨.ref l,H3,I3,rfl,hq l H3 out (X2.free hl (λz=>by rw [z] at hl;obtain ⟨p2,z2⟩:=T2.ne;rw [z2] at hl;cases hl)) hl3 (X2.trans (Ext.of_same sm)) (T2.same sm) hs⟩
end
end L2
end
section
namespace L2
open PySem.W
theorem ZA {P:Program}{w:aU}{K:ag}{mg mb:Str->Option af}{k:Nat}{fa a c Pt:Addr}{fd:FuncData}{x:Str}{sp:Sp}{s₁:Shared}{vs:List af}{ns:List Int}
  (KX:K.In s₁.heap) (hns:s₁.heap.Ns mainGlobals mg) (hb:s₁.heap.Ns lO mb) (hbb:∀x:Str,x ≠ "__name__" -> mb x=fC x) (hlim:s₁.heap.NoLimit) (hg:s₁.gens = #[])
  (ha:s₁.heap.get? a=some { cls:=.type "list",data:=.seq vs.toArray }) (hi:d6 vs ns) (hl:ns.length<=sizeLine) (hr:Room k mT)
  (hPt:s₁.heap.get? Pt=some (rf #[])) (hKP:K.lookup Pt=none) (CH:CodeHd s₁.heap c Pt) (hB:Bm mg s₁.heap)
  (F:∀base:Heap,K.In base->base.Ns mainGlobals mg->Bm mg base->FnOk P w K mg base CX0 k fa fd [x] sp) (hbind:∀(s:Shared) (u:af),pV s fd ⟨[u],[]⟩ [(x,u)])
  (hsp:∀H:Hp,SqL K H a (ns.map V.int)->H Pt=some (.tbl #[])->sp [.ref a] H (λv _=>v = .bl true) λ_ _ _=>False) :
  d5 (aC P w) mT (.call (.ref fa) ⟨[.ref a],[]⟩) (λr s'=>r = .ok (.ret (.bool true))/\OldK s₁.heap s'.heap/\s'.os=s₁.os/\i5 s'.gens) s₁:=by
 have rv:=ue hi
 have lenV:=hi.length
 have core:∀H:Hp,H Pt=some (.tbl #[])->(∀b,b≠Pt->H b=none\/∃o xs,H b=some (.frz o (.lst xs)))->SqL K H a (ns.map V.int)->HOk P w H s₁.heap->(∀b,H b≠none->b=a\/b=Pt)->(H a≠none->K.lookup a=none) ->
   d5 (aC P w) mT (.call (.ref fa) ⟨[.ref a],[]⟩) (λr s'=>r = .ok (.ret (.bool true))/\OldK s₁.heap s'.heap/\s'.os=s₁.os/\i5 s'.gens) s₁:=by
  intro H hP hO hS hok hA hK
  have base_of:∀{b:Addr} {o:Obj},s₁.heap.get? b=some o->H b=none->(kP s₁.heap H).get? b=some o:=λe n=>YZ e n
  have noA:∀{b:Addr} {o:Obj},s₁.heap.get? b=some o->(∀xs n,o.data≠.seq xs n)->(∀vs,o.data = .fields vs->o.cls≠.none)->H b=none:=λ{b o} e d1 d2=>by
   cases q:H b with
   | none=>rfl
   | some u =>
    rcases hA b (by rw [q];simp) with e' | e'
    ·subst e'
     rw [ha] at e;cases e
     exact absurd rfl (d1 _ _)
    ·subst e'
     rw [hPt] at e;cases e
     exact absurd rfl (d2 _ rfl)
  have noD:∀{b:Addr} {o:Obj} {es:Array fZ} {ep:Nat},s₁.heap.get? b=some o->o.data = .dict es ep->H b=none:=λ{b o es ep} e d =>
   noA e (λxs n z=>by rw [d] at z;cases z) (λvs z=>by rw [d] at z;cases z)
  have nsK:∀{b:Addr} {m:Str->Option af},s₁.heap.Ns b m->(kP s₁.heap H).Ns b m:=λ{b m} ⟨o,es,ep,e,d,r⟩=>⟨o,es,ep,base_of e (noD e d),d,r⟩
  have hKb:K.In (kP s₁.heap H):=λb o e=>base_of (KX b o e) (by
   cases q:H b with
   | none=>rfl
   | some u =>
    rcases hA b (by rw [q];simp) with e' | e'
    ·subst e'
     rw [hK (by rw [q];simp)] at e;cases e
    ·subst e'
     rw [hKP] at e;cases e)
  have hBb:Bm mg (kP s₁.heap H):=by
   obtain ⟨bm,ob,b1,b2,b3,b4,b5,b6⟩:=hB
   exact ⟨bm,ob,b1,b2,base_of b3 (noA b3 (λxs n z=>by rw [b6] at z;cases z) λvs z=>by rw [b6] at z;cases z),b4,b5,b6⟩
  have hM:Mod K mg (kP s₁.heap H):=⟨hKb,nsK hns,⟨mb,nsK hb,hbb⟩,let ⟨mc,h1,h2⟩:=hlim;⟨mc,nsK h1,h2⟩⟩
  have e0:Env0 P w K mg (kP s₁.heap H) mT [] s₁ H:=⟨rfl,hM,λb o e=>U7 e,nW (ZQ _ _),trivial,λb hb=>absurd (show b∈([]:List Addr) from hb) (by simp),hok,.of_eq hg⟩
  refine dz ((F _ hKb (nsK hns) hBb).run mT [] s₁ H ⟨[.ref a],[]⟩ [.ref a] [.ref a] _ _ hr e0 (hbind s₁ (.ref a)) (.cons rfl .nil) (hsp H hS hP)) λr s' h=>?_
  cases r with
  | error e=>exact bA h
  | ok fl =>
   cases fl with
   | next=>exact bA h
   | brk=>exact bA h
   | cont=>exact bA h
   | ret u =>
    obtain ⟨v,H',os,bare,un,hok',r',q⟩:=h
    have q':v = .bl true:=q
    subst q'
    obtain rfl:u=lN true:=r'
    have kp:∀b o,b≠Pt->s₁.heap.get? b=some o->s'.heap.get? b=some o:=λb o hb e=>by
     cases q:H b with
     | none=>exact un.keep b o e q (by intro z;exact absurd (show b∈([]:List Addr) from z) (by simp)) (by simp)
     | some u =>
      rcases hO b hb with z | ⟨ob,xs,z⟩
      ·rw [q] at z;cases z
      ·have z2:=un.frzs b ob _ z
       obtain ⟨e1,_⟩:=hok b _ z
       obtain ⟨e2,_⟩:=hok' b _ z2
       rw [e] at e1;cases e1
       exact e2
    obtain ⟨more,hm⟩:=un.tbls Pt _ hP
    have hm':s'.heap.get? Pt=some { cls:=.none,data:=.fields (#[]++more) }:=hok' Pt _ hm
    refine ⟨rfl,⟨λb o e=>?_,λb o e=>?_⟩,os,bare⟩
    ·by_cases hb:b=Pt
     ·subst hb
      rw [hPt] at e;cases e
      exact .inr (.inl ⟨(CH.tab hPt).isCodeTable,rfl,#[],more,rfl,hm'⟩)
     ·exact .inl (kp b o hb e)
    ·by_cases hb:b=Pt
     ·subst hb;exact ⟨_,hm'⟩
     ·exact ⟨o,kp b o hb e⟩
 have haP:a≠Pt:=λz=>by rw [z,hPt] at ha;cases ha
 cases hk:K.lookup a with
 | some o =>
  have e:=KX a o hk
  rw [ha] at e
  cases e
  refine core (λb=>if b=Pt then some (.tbl #[]) else none) (if_pos rfl) (λb hb=>.inl (if_neg hb)) (.inr ⟨_,vs.toArray,_,hk,rfl,rfl,rfl,by rw [av,lenV];exact hl,by simpa using rv⟩) (λb u z=>?_) (λb z=>?_) λz=>absurd (if_neg haP) z
  ·by_cases hb:b=Pt
   ·have z':=(if_pos hb).symm.trans z
    cases z'
    subst hb
    exact hPt
   ·have z':=(if_neg hb).symm.trans z
    cases z'
  ·by_cases hb:b=Pt
   ·exact .inr hb
   ·exact absurd (if_neg hb) z
 | none =>
  refine core (λb=>if b=Pt then some (.tbl #[]) else if b=a then some (.frz { cls:=.type "list",data:=.seq vs.toArray } (.lst (ns.map V.int))) else none) (if_pos rfl) (λb hb=>?_)
   (.inl (.inr ⟨{ cls:=.type "list",data:=.seq vs.toArray },(if_neg haP).trans (if_pos rfl)⟩)) (λb u z=>?_) (λb z=>?_) λ_=>hk
  ·by_cases hb2:b=a
   ·exact .inr ⟨_,_,(if_neg hb).trans (if_pos hb2)⟩
   ·exact .inl ((if_neg hb).trans (if_neg hb2))
  ·by_cases hb:b=Pt
   ·have z':=(if_pos hb).symm.trans z
    cases z'
    subst hb
    exact hPt
   ·by_cases hb2:b=a
    ·have z':=((if_neg hb).trans (if_pos hb2)).symm.trans z
     cases z'
     subst hb2
     exact ⟨ha,by rw [ah];exact hl,vs,_,rv,ha⟩
    ·have z':=((if_neg hb).trans (if_neg hb2)).symm.trans z
     cases z'
  ·by_cases hb:b=Pt
   ·exact .inr hb
   ·by_cases hb2:b=a
    ·exact .inl hb2
    ·exact absurd ((if_neg hb).trans (if_neg hb2)) z
noncomputable def QY (K:ag) (Pt:Addr):Sp:=λvs H Q _=>∃(a:Addr) (ns:List Int),vs=[.ref a]/\SqL K H a (ns.map V.int)/\ns.length<=63/\H Pt=some (.tbl #[])/\∀H',Q (.bl true) H'
theorem Uc {l:pN}{q:Program}{loose:List Str}{XP:(Str->Option af)->Heap->Prop}{YP:aU->Heap->Prop}{d:DefRec}{K:pY->ag}(k:Nat) (c Pt:Addr) (hr:Room k mT) (hn:l.most=some 63) (hdf:d.params.defaults=[])
  (hY:∀(w:aU) (h:Heap),YP w h->(K w.params).In h/\h.get? Pt=some (rf #[])) (hKP:∀p:pY,(K p).lookup Pt=none) (hC:∀p:pY,codeHdIn (K p) c Pt=true)
  (F:∀(w:aU) (mg:Str->Option af) (fa:Addr) (h:Heap),(K w.params).In h->h.Ns mainGlobals mg->mg d.name=some (.ref fa) ->
   ∃fd:FuncData,(∀(s:Shared) (u:af),pV s fd ⟨[u],[]⟩ [("_law_script",u)])/\∀base:Heap,(K w.params).In base->base.Ns mainGlobals mg->Bm mg base->FnOk l.prog w (K w.params) mg base CX0 k fa fd ["_law_script"] (QY (K w.params) Pt)) :
  PySem.W.WalkO q loose XP YP l.row.toRowW d [] (λf vs=>PySem.call f vs):=by
 refine Att.attach_call hn hdf λw s₀ s₁ mg mb fa o pm cd doc a vs ns G Y ho hd hcd hmg hobj hints hlen hg=>?_
 obtain ⟨KX,hT⟩:=hY w _ Y
 obtain ⟨fd,hb,hF⟩:=F w mg fa _ KX G.T.g hmg
 exact ZA (c:=c) KX G.T.g G.T.b G.T.builtins G.T.nolimit hg hobj hints (aG hlen ⋯) hr hT (hKP w.params) (codeHd_of_K KX (hC w.params)) G.T.bmain hF hb λH hS hP=>⟨a,ns,rfl,hS,hlen,hP,λ_=>rfl⟩
theorem Fun.okC {P:Program}{w:aU}{K:ag}{mg:Str->Option af}{base:Heap}{x qual:Str}{st:Stmt}{f c:Addr}{oc:af}{od an:Option Addr}{osl:Array (Option af)}{kV doc pm ct:af}{N ps:List Str}{k:Nat}{sp:Sp}
  (l:K.lookup f=some ⟨oc,od,.func (bB x qual (qa st) (jM st) (j8 st) .none kV doc pm an (.ref c) ct),osl⟩) (cd:cB K (.ref c) qual=true) (S:FnScope N ps (j8 st)) (len:∀vs H Q E,sp vs H Q E->vs.length=ps.length)
  (hbody:∀(A:bb) (outer:List Env) (s:Shared) (H:Hp) (vs:List V) (Q:VK) (E:XK),Room k (A.deeper (lr qual (j8 st) s.heap.objs.size f (.ref c)))->sp vs H Q E ->
   ∃t,PSs (vd CX0 P w K mg base N qual (j8 st) f (.ref c) A outer s H E).nox (jM st) t/\t { nx:=λ_ H'=>Q .non H',rt:=Q } (start N vs) H) :
  FnOk P w K mg base CX0 (k+1) f (bB x qual (qa st) (jM st) (j8 st) .none kV doc pm an (.ref c) ct) ps sp:=by
 refine Vf l cd S len λA outer s H vs Q E hr hsp=>?_
 obtain ⟨t,h,q⟩:=hbody A outer s H vs Q E hr hsp
 exact ⟨t,h.nox,q⟩
theorem Cal.mkC {P:Program}{w:aU}{K:ag}{mg:Str->Option af}{base:Heap}{k:Nat}{x:Str}{ps:List Str}{sp:Sp}{st:Stmt}{h:Heap}{f c:Addr}{oc:af}{od an:Option Addr}{osl:Array (Option af)}{kV doc pm ct:af}
  (X:K.In h) (G:h.Ns mainGlobals mg) (a:aR K mainGlobals x=some (some (.ref f)))
  (l:K.lookup f=some ⟨oc,od,.func (bB x x (qa st) (jM st) (j8 st) .none kV doc pm an (.ref c) ct),osl⟩) (cd:cB K (.ref c) x=true) (k':bR K (.ref f)=true)
  (hb:∀(kV doc pm:af) (an:Option Addr) (cdv ct:af) (us:List af),us.length=ps.length->cA (bB x x (qa st) (jM st) (j8 st) .none kV doc pm an cdv ct) ⟨us,[]⟩=pure (ps.zip us))
  (ok:FnOk P w K mg base CX0 k f (bB x x (qa st) (jM st) (j8 st) .none kV doc pm an (.ref c) ct) ps sp):Cal P w K mg base k x ps sp:=by
 have F:=vi (st:=st) l cd k'
 exact ⟨f,_,ok,F.binds hb,bh X G a,k'⟩
end L2
end
section
namespace L2
open PySem.W
noncomputable def Ite (K:ag) (a:Addr):It :=
 ⟨λi H=>∃xs x,SqL K H a xs/\xs[i]? = some x,λi H v H'=>∃t x,v = .ref t/\H t=none/\H'=upd H t (.tup [.int i,x])/\∀xs,SqL K H a xs->xs[i]? = some x,λi H=>∃xs,SqL K H a xs/\xs.length<=i⟩
theorem Y0 {P:Program}{w:aU}{K:ag}{es:List Expr}{x1:Nat}{pos:Pos}(a e it:Addr) (hne:e≠it):Turn P w K (.Tuple es x1 pos) (Ite K a) [e,it] e (λi h=>∃old,IsEnum h e it i old/\h.IsListIter it a i) where
 mem:=by simp
 obj:=λi h ⟨old,st1,st2⟩ b hb=>by
  rcases List.mem_cons.mp hb with rfl | hb
  ·exact ⟨_,st1,λv z=>by
    have z':mz _=lF v:=z
    cases z'⟩
  ·have e:b=it:=by simpa using hb
   subst e
   obtain ⟨o,e,c,d⟩:=st2
   exact ⟨o,e,λv z=>by rw [d] at z;cases z⟩
 keep:=λi h h' ⟨old,st1,st2⟩ k=>⟨old,k e (by simp) _ st1,st2.at λo z=>k it (by simp) o z⟩
 item:=by
  intro X hP hw hK hc i pins s σ H E I hf st hg
  subst hP hw hK
  obtain ⟨old,st1,st2⟩:=st
  obtain ⟨xs,x,hq,hx⟩:=hg
  obtain ⟨its,rv,p,hz⟩:=I.list hq
  obtain ⟨u,hu,ru⟩:=rv.get hx
  obtain ⟨f0,f1,f2,f3,f4,f5⟩:=hf e (by simp)
  obtain ⟨g0,g1,g2,g3,g4,g5⟩:=hf it (by simp)
  have hn:H s.heap.objs.size=none:=I.hok.fresh (ao _)
  refine wpAny_pyNext_enum_item st1 st2 p.isList (x:=u) (by simpa using hu) hne λh' o1 o2 o3 o4 o5=>⟨_,rfl,?_⟩
  refine wpAny_letOwnedTupleGo_enum o1 λh2 q1 sb=>?_
  have hel:e<s.heap.objs.size:=ay st1
  have kk:∀b o,b≠e->b≠it->s.heap.get? b=some o->h2.get? b=some o:=λb o n1 n2 z=>(sb.2 b n1).trans (o5 b o n1 n2 z)
  have et:h2.get? s.heap.objs.size=some { cls:=.type "tuple",data:=.seq #[.int i s.toks,u] }:=(sb.2 _ (d0 hel)).trans o3
  have tne:∀b o,H b=some o->b≠e/\b≠it/\b≠s.heap.objs.size:=λb o q=>⟨λz=>(by rw [z,f0] at q;cases q),λz=>(by rw [z,g0] at q;cases q),λz=>(by rw [z,hn] at q;cases q)⟩
  have getF:∀{b:Addr} {o:HO},H b=some o->upd H s.heap.objs.size (.tup [.int i,x]) b=some o:=λ{b o} q=>by rw [j6 (tne b o q).2.2];exact q
  have I1:Inv X pins σ (upd H s.heap.objs.size (.tup [.int i,x])) { s with heap:=h2,toks:=s.toks+1 }:=by
   refine I.step (g':=s.gens) (d':=s.drawn) (ch:=[e,it]) (λb hb=>?_) (λb o _ _ hc z _=>kk b o (λy=>hc (by simp [y])) (λy=>hc (by simp [y])) z) (λb o _ _ hc z _=>⟨o.slots,kk b o (λy=>hc (by simp [y])) (λy=>hc (by simp [y])) z⟩)
    (λb o hc z n=>by rw [j6 (aB (ay z))];exact n) (λb o hc z=>⟨o,kk b o (λy=>hc (by simp [y])) (λy=>hc (by simp [y])) z⟩) (λ_ _ q=>getF q) (λ_ _ _ q=>getF q) (λb ps q=>⟨#[],by rw [getF q];simp⟩) (λm hm=>?_) (λb v q=>?_) I.bare
   ·rcases List.mem_cons.mp hb with rfl | hb
    ·exact ⟨f3,f1,f4,f5⟩
    ·have e:b=it:=by simpa using hb
     subst e
     exact ⟨g3,g1,g4,g5⟩
   ·obtain ⟨o,es,ep,ho,r⟩:=hm
    exact ⟨o,es,ep,kk _ o (cq f1) (cq g1) ho,r⟩
   ·by_cases hb:b=s.heap.objs.size
    ·subst hb
     rw [j5] at q;cases q
     exact ⟨by show 2<=sizeLine;decide,[.int i s.toks,u],.cons ⟨_,rfl⟩ (.cons ru .nil),⟨_,et,rfl,0,rfl⟩⟩
    ·rw [j6 hb] at q
     refine (I.hok b v q).stay (λc o hc z=>kk c o ?_ ?_ z) (λ_ z=>getF z) λ_ _ z=>getF z
     ·rcases hc with z | z
      ·rw [z];exact (tne b v q).1
      ·exact (tne c _ z).1
     ·rcases hc with z | z
      ·rw [z];exact (tne b v q).2.1
      ·exact (tne c _ z).2.1
  have st2':h2.IsListIter it a (i+1):=o2.at λo z=>(sb.2 it (cq hne)).trans z
  refine ⟨.ref s.heap.objs.size,_,I1,rfl,⟨_,x,rfl,hn,rfl,λys hy=>by rw [I.list_inj hy hq];exact hx⟩,⟨u,?_,st2'⟩,λb hb=>?_⟩
  ·have:((i+1:Nat):Int)=(i:Int)+1:=by push_cast;rfl
   rw [this]
   exact q1
  ·rcases List.mem_cons.mp hb with rfl | hb
   ·rw [j6 (aB hel)];exact f0
   ·have e:b=it:=by simpa using hb
    subst e
    obtain ⟨o,z,_⟩:=st2
    rw [j6 (aB (ay z))];exact g0
 done:=by
  intro X hP hw hK hc i pins s σ H E I hf st hg
  subst hP hw hK
  obtain ⟨old,st1,st2⟩:=st
  obtain ⟨xs,hq,hx⟩:=hg
  obtain ⟨its,rv,p,hz⟩:=I.list hq
  obtain ⟨g0,g1,g2,g3,g4,g5⟩:=hf it (by simp)
  have hl:=rv.length
  exact wpAny_pyNext_enum_end (I.ok.hd hc) st1 st2 p.isList (by simp;omega) λh' eb=>⟨rfl,I.turned (t':=s.toks) (λb o hb e=>eb b o hb e) g0 g1 g3 g4 g5⟩
 self:=λ_ _ _ _ _ ⟨old,st1,_⟩ h=>oB st1 h
section
variable {X:Cx}
noncomputable def G1 (K:ag) (ta:TA):TI:=λσ H R=>ta σ H λvs H1=>∃a,vs=[.ref a]/\(∃xs,SqL K H1 a xs)/\R (Ite K a) H1
theorem J8 {es:List Expr}{x1:Nat}{tpos:Pos}{l:Expr}{ta:TA}{p pos:Pos}(K:ag) (hg:Gl X "enumerate") (hm:X.mg "enumerate" = none) (ha:PA X [l] ta) (hs:aK [l] X.env=[(false,eval l X.env)]:=by rfl) (hK:X.K=K:=by rfl) :
  PI X (.Tuple es x1 tpos) (.Call (.Name "enumerate" p) [l] [] pos) (G1 K ta):=by
 subst hK
 intro pins s σ H R I h
 refine t7 (y7 I hg hm boot_enumerate (bZ (thn (ha pos pins s σ H _ I h) λus s1 ⟨vs,H1,I1,r1,q1⟩=>?_) hs rfl))
 obtain ⟨a,e,⟨xs,hq⟩,q⟩:=q1
 subst e
 obtain ⟨u,rfl,ru⟩:=yW r1
 cases ru
 obtain ⟨its,rv,pl,hz⟩:=I1.list hq
 refine call_enumerate_list pl.isList λh' i1 i2 i3 kk=>?_
 refine oB i1 ?_
 have I2:Inv X pins σ H1 { s1 with heap:=h',toks:=s1.toks }:=I1.kept kk
 refine ⟨_,[s1.heap.objs.size+1,s1.heap.objs.size],_,_,H1,rfl,I2,Y0 a _ _ (by exact Nat.succ_ne_self _),⟨.none,i1,i2⟩,λb hb=>?_,q⟩
 rcases List.mem_cons.mp hb with rfl | hb
 ·exact I1.fpOk (fk _) (I1.hok.fresh (fk _))
 ·have e:b=s1.heap.objs.size:=by simpa using hb
  subst e
  exact I1.fpOk (ao _) (I1.hok.fresh (ao _))
end
theorem Zv {K:ag}{a acc:Addr}{xs:List V}{g:TG}{ti:TT}{te:TE}{R:Hp->Prop}{σ:St}{H:Hp}(Pv:Nat->St->Hp->Prop) (h0:Pv 0 σ H) (hl:∀i σ H,i<=xs.length->Pv i σ H->SqL K H a xs)
  (hs:∀i x σ H t,xs[i]? = some x->Pv i σ H->H t=none->g (.ref t) σ (upd H t (.tup [.int i,x])) λσ3 H3=>ti σ3 H3 λok H4=>if ok=true then te σ3 H4 λv H5=>∃ys,H5 acc=some (.lst ys)/\ys.length<sizeLine/\Pv (i+1) σ3 (upd H5 acc (.lst (ys++[v]))) else Pv (i+1) σ3 H4)
  (hd:∀σ H,Pv xs.length σ H->R H) :
  ∃W:Nat->Nat->St->Hp->Prop,(∃m,W 0 m σ H)/\∀i m σ' H',W i m σ' H' ->
   ((Ite K a).stop i H'/\R H')\/((Ite K a).go i H'/\∃NX:St->Hp->Prop,(∀σ2 H2,NX σ2 H2->∃m',m'<m/\W (i+1) m' σ2 H2) /\
    ∀x H2,(Ite K a).yld i H' x H2->g x σ' H2 λσ3 H3=>ti σ3 H3 λok H4=>if ok=true then te σ3 H4 λv H5=>∃ys,H5 acc=some (.lst ys)/\ys.length<sizeLine/\NX σ3 (upd H5 acc (.lst (ys++[v]))) else NX σ3 H4):=by
 refine ⟨λi m σ H=>m=xs.length-i/\i<=xs.length/\Pv i σ H,⟨xs.length,by simp,aE _,h0⟩,?_⟩
 rintro i m σ H ⟨rfl,hi,p⟩
 have q:=hl i σ H hi p
 by_cases hlt:i<xs.length
 ·refine .inr ⟨⟨xs,xs[i],q,by simp [hlt]⟩,Pv (i+1),λσ' H' p'=>⟨xs.length-(i+1),∅,rfl,hlt,p'⟩,λv H' y=>?_⟩
  obtain ⟨t,x,rfl,hn,rfl,y⟩:=y
  exact hs i x σ H t (y xs q) p hn
 ·have e:i=xs.length:=∅
  subst e
  exact .inl ⟨⟨xs,q,ao _⟩,hd σ H p⟩
theorem JA {K:ag}{a:Addr}{xs:List V}{g:TG}{tb:TS}{D:Ends}{σ:St}{H:Hp}(Pv:Nat->St->Hp->Prop) (h0:Pv 0 σ H) (hl:∀i σ H,i<=xs.length->Pv i σ H->SqL K H a xs)
  (hs:∀i x σ H t,xs[i]? = some x->Pv i σ H->H t=none->g (.ref t) σ (upd H t (.tup [.int i,x])) λσ2 H2=>tb { D with nx:=Pv (i+1),ct:=Pv (i+1),bk:=D.nx } σ2 H2) (hd:∀σ H,Pv xs.length σ H->D.nx σ H) :
  ∃W:Nat->Nat->St->Hp->Prop,(∃m,W 0 m σ H)/\∀i m σ H,W i m σ H ->
   ((Ite K a).stop i H/\D.nx σ H)\/((Ite K a).go i H/\∃N:St->Hp->Prop,(∀σ' H',N σ' H'->∃m',m'<m/\W (i+1) m' σ' H')/\∀x H',(Ite K a).yld i H x H'->g x σ H' λσ2 H2=>tb { D with nx:=N,ct:=N,bk:=D.nx } σ2 H2):=by
 refine ⟨λi m σ H=>m=xs.length-i/\i<=xs.length/\Pv i σ H,⟨xs.length,by simp,aE _,h0⟩,?_⟩
 rintro i m σ H ⟨rfl,hi,p⟩
 have q:=hl i σ H hi p
 by_cases hlt:i<xs.length
 ·refine .inr ⟨⟨xs,xs[i],q,by simp [hlt]⟩,Pv (i+1),λσ' H' p'=>⟨xs.length-(i+1),∅,rfl,hlt,p'⟩,λv H' y=>?_⟩
  obtain ⟨t,x,rfl,hn,rfl,y⟩:=y
  exact hs i x σ H t (y xs q) p hn
 ·have e:i=xs.length:=∅
  subst e
  exact .inl ⟨⟨xs,q,ao _⟩,hd σ H p⟩
end L2
end
section
namespace L2
open PySem.W
theorem kU:∀(l:List Int),(∀n∈l,0<=n/\n<=2 ^ 20)->0<=l.sum/\l.sum<=2 ^ 20*l.length
 | [],_=>by simp
 | n::l,h=>by
  have ih:=kU l λm hm=>h m (aD _ hm)
  have h0:=h n aH
  rw [n6,bj]
  constructor
  ·omega
  ·push_cast
   omega
section
variable {X:Cx}
theorem wO (K:ag) (hc:X.calm=true) (hK:X.K=K:=by rfl):xb X (.builtin "sum") (λxs H Q=>∃(p:Addr) (ns:List Int),xs=[.ref p]/\SqL K H p (ns.map V.int)/\ns.length<=1000/\(∀n∈ns,0<=n/\n<=2 ^ 20)/\Q (.int ns.sum) H):=by
 subst hK
 intro pins s σ H xs us Q I r h
 obtain ⟨p,ns,rfl,hq,hl,hb,q⟩:=h
 obtain ⟨u,rfl,ru⟩:=yW r
 cases ru
 obtain ⟨its,rv,pl,hz⟩:=I.list hq
 have hI:=xZ rv
 have hlen:=hI.length
 have hne:p≠s.heap.objs.size:=by
  obtain ⟨o,n,e,_⟩:=id pl
  exact aB (ay e)
 refine call_sum_walk (eI pl.isList ?_)
 refine ⟨s.heap.objs.size,_,_,_,_,_,λi=>ns.getD i 0,rfl,Walks.list (show (X.A.in1).handled=none from I.ok.hd hc) s.heap.objs.size p hne its.toArray,⟨⟨_,az _ rfl,rfl,rfl⟩,pl.isList.at λo e=>ai _ e⟩,?_,?_,?_,?_⟩
 ·intro b hb'
  have hps:p<s.heap.objs.size:=by
   obtain ⟨o,n,e,_⟩:=id pl
   exact ay e
  show b<(s.heap.push _).objs.size
  rw [cz]
  rcases List.mem_cons.mp hb' with rfl | hb'
  ·exact fV _
  ·have e:b=p:=by simpa using hb'
   subst e
   exact cf hps
 ·intro i v hP
  have hP':its[i]? = some v:=by simpa using hP
  have hi:i<its.length:=(List.getElem?_eq_some_iff.mp hP').1
  obtain ⟨t,e⟩:=Jn hI hi
  rw [e] at hP'
  refine ⟨t,?_⟩
  show v=lB (ns.getD i 0) t
  rw [ak,ae ∅]
  exact (aO hP').symm
 ·intro j hj
  have hj':j<ns.length:=by
   have:its.toArray.size=its.length:=by simp
   omega
  constructor
  ·show InLong (ns.getD j 0)
   rw [ak,ae hj']
   have:=hb _ (bU hj')
   show -(2 ^ 63)<=ns[j]/\ns[j]<2 ^ 63
   omega
  ·rw [preSum_getD]
   have:=kU (ns.take (j+1)) λn hn=>hb n (List.mem_of_mem_take hn)
   have hl2:(ns.take (j+1)).length<=1000:=by rw [aM];omega
   show -(2 ^ 63)<=_/\_<2 ^ 63
   omega
 ·intro h' tk t' hk
  rw [preSum_getD,d9 (by simp;omega)]
  refine ⟨.int ns.sum,H,I.kept (t':=tk) λb o eo=>hk b o (by
   intro z
   have:=List.mem_singleton.mp z
   subst this
   exact absurd (ay eo) (cu _)) (ai _ eo),⟨t',rfl⟩,q⟩
theorem zi (K:ag) (h:X.K=K:=by rfl):xb X (.type "tuple") (λxs H Q=>∃p ys,xs=[.ref p]/\SqL K H p ys/\New H (.tup ys) Q):=by
 subst h
 exact kQ.weak λ_ _ _ ⟨p,ys,h1,h2,q⟩=>⟨p,ys,h1,.inl ⟨h2,q.at⟩⟩
end
end L2
end
section
namespace L2
open PySem.W
structure Nb2 (mg:Str->Option af):Prop extends Nb mg where
 b_enumerate:mg "enumerate" = none
 b_sorted:mg "sorted" = none
 b_sum:mg "sum" = none
noncomputable abbrev Rch:=Int×List Int
noncomputable def tos (rs:List Rch):List Int:=rs.map (·.1)
noncomputable def xO (rs:List Rch) (r:Nat):Int:=(rs.getD r (-1,[])).1
noncomputable def zA (rs:List Rch) (r:Nat):List Int:=(rs.getD r (-1,[])).2
noncomputable def xE (i:Nat) (t:Int):Bool:=if i=0 then decide (t = -1) else decide (0<=t/\t<i)
noncomputable def okR (i:Nat) (r:Rch):Bool:=xE i r.1 && decide (1<=(r.2.length:Int)/\(r.2.length:Int)<=12) && r.2.all λx=>decide (0<=x/\x<=99)
noncomputable def uD (rs:List Rch):Bool:=(aF rs.length).all λi=>okR i (rs.getD i (-1,[]))
noncomputable def xr (rs:List Rch):Prop:=∀i,i<rs.length->xE i (xO rs i)=true
noncomputable def jL (rs:List Rch) (h:Nat):Bool:=!decide ((h:Int)∈tos rs)
noncomputable def jq (rs:List Rch):List Nat:=(aF rs.length).filter (jL rs)
noncomputable def yV (rs:List Rch):Nat->Nat->List Int
 | 0,_=>[]
 | f+1,r=>(r:Int)::(if xO rs r<0 then [] else yV rs f (xO rs r).toNat)
noncomputable def qu (rs:List Rch) (r:Nat):List Int:=yV rs (r+1) r
noncomputable def jy (rs:List Rch) (way:List Int):Int:=(way.map λr=>((zA rs r.toNat).length:Int)).sum
noncomputable def zr (rs:List Rch):Bool:=decide (1<=(rs.length:Int)/\(rs.length:Int)<=8) && (uD rs && (decide (((jq rs).length:Int)<=6) && (jq rs).all λh=>decide (jy rs (qu rs h)<=30)))
theorem wW {i:Nat}{t:Int}(h:xE i t=true):t<i/\(-1<=t)/\(t<0->i=0):=by
 unfold xE at h
 by_cases hi:i=0
 ·rw [if_pos hi] at h
  have:=of_decide_eq_true h
  omega
 ·rw [if_neg hi] at h
  have:=of_decide_eq_true h
  omega
theorem ZW {i:Nat}{r:Rch}(h:okR i r=true):xE i r.1=true:=by
 unfold okR at h
 rw [aY,aY] at h
 exact h.1.1
theorem gY {rs:List Rch}(h:uD rs=true) {i:Nat}{r:Rch}(hr:rs[i]? = some r):okR i r=true:=by
 unfold uD at h
 rw [bM] at h
 have hi:=(List.getElem?_eq_some_iff.mp hr).1
 have:=h i (List.mem_range.mpr hi)
 rw [ak,hr] at this
 exact this
theorem qe {rs:List Rch}(h:uD rs=true):xr rs:=λi hi=>by
 have:=ZW (gY h (ae hi))
 unfold xO
 rw [ak,ae hi]
 exact this
theorem gX {rs:List Rch}{i:Nat}{r:Rch}(h:rs[i]? = some r):xO rs i=r.1:=by
 unfold xO
 rw [ak,h]
 rfl
theorem Jx {rs:List Rch}{i:Nat}{r:Rch}(h:rs[i]? = some r):zA rs i=r.2:=by
 unfold zA
 rw [ak,h]
 rfl
theorem xr.lt {rs:List Rch}(L:xr rs) {r:Nat}(hr:r<rs.length):xO rs r<r:=(wW (L r hr)).1
theorem gQ {rs:List Rch}(L:xr rs):∀(f g r:Nat),r<rs.length->r<f->r<g->yV rs f r=yV rs g r
 | 0,_,_,_,h,_=>∅
 | _+1,0,_,_,_,h=>∅
 | f+1,g+1,r,hr,h1,h2=>by
  unfold yV
  by_cases ht:xO rs r<0
  ·rw [if_pos ht,if_pos ht]
  ·rw [if_neg ht,if_neg ht]
   have hl:=L.lt hr
   rw [gQ L f g (xO rs r).toNat ∅ ∅ ∅]
theorem zt {rs:List Rch}(L:xr rs) {r:Nat}(hr:r<rs.length):qu rs r=(r:Int)::(if xO rs r<0 then [] else qu rs (xO rs r).toNat):=by
 unfold qu
 rw [yV]
 by_cases ht:xO rs r<0
 ·rw [if_pos ht,if_pos ht]
 ·rw [if_neg ht,if_neg ht]
  have hl:=L.lt hr
  rw [gQ L r ((xO rs r).toNat+1) (xO rs r).toNat ∅ ∅ ∅]
theorem Uo {rs:List Rch}(r:Nat):qu rs r≠[]:=by unfold qu yV;exact λz=>nomatch z
theorem vY {rs:List Rch}(L:xr rs):∀(r:Nat),r<rs.length->(qu rs r).length<=r+1
 | r,hr=>by
  rw [zt L hr]
  by_cases ht:xO rs r<0
  ·rw [if_pos ht];simp
  ·rw [if_neg ht]
   have hl:=L.lt hr
   have:=vY L (xO rs r).toNat ∅
   rw [bj]
   omega
 termination_by r=>r
 decreasing_by omega
theorem xM {rs:List Rch}(L:xr rs):∀(r:Nat),r<rs.length->∀x∈qu rs r,0<=x/\x<rs.length
 | r,hr,x,hx=>by
  rw [zt L hr] at hx
  rcases List.mem_cons.mp hx with rfl | hx
  ·omega
  ·by_cases ht:xO rs r<0
   ·rw [if_pos ht] at hx;cases hx
   ·rw [if_neg ht] at hx
    have hl:=L.lt hr
    exact xM L (xO rs r).toNat ∅ x hx
 termination_by r=>r
 decreasing_by omega
theorem xD {rs:List Rch}{h:Nat}(hh:h∈jq rs):h<rs.length:=by
 have:=(List.mem_filter.mp hh).1
 exact List.mem_range.mp this
theorem xg (rs:List Rch) (r:Int) (way:List Int):jy rs (r::way)=((zA rs r.toNat).length:Int)+jy rs way:=by
 unfold jy
 rw [aJ,n6]
theorem YI {α:Type}{p:α->Bool}{l l':List α}(h:l.Perm l'):l.all p=l'.all p:=by
 rw [dZ,bM,bM]
 exact ⟨λz x hx=>z x (h.mem_iff.mpr hx),λz x hx=>z x (h.mem_iff.mp hx)⟩
noncomputable def jX (rs:List Rch) (ws:List (List Int)):Prop:=ws.Perm ((jq rs).map (qu rs))/\(ws.map cE).Pairwise uU.kle
theorem jX.length {rs:List Rch}{ws:List (List Int)}(h:jX rs ws):ws.length=(jq rs).length:=by rw [h.1.length_eq,ah]
theorem jX.mem {rs:List Rch}{ws:List (List Int)}(h:jX rs ws) {w:List Int}(hw:w∈ws):∃x∈jq rs,w=qu rs x:=by
 obtain ⟨x,hx,e⟩:=List.mem_map.mp (h.1.mem_iff.mp hw)
 exact ⟨x,hx,e.symm⟩
theorem jX.all {rs:List Rch}{ws:List (List Int)}(h:jX rs ws):(ws.map λw=>decide (jy rs w<=30)).all (λb=>b)=(jq rs).all λx=>decide (jy rs (qu rs x)<=30):=by
 rw [fL,YI h.1,fL]
 rfl
theorem yl {O:KeyOrd}:∀{l l':List O.α},l.Perm l'->l.Pairwise O.kle->l'.Pairwise O.kle->l=l'
 | [],l',h,_,_=>(List.nil_perm.mp h).symm
 | x::l,[],h,_,_=>by have:=h.length_eq;simp at this
 | x::l,y::l',h,h1,h2=>by
  have hx:=(List.pairwise_cons.mp h1)
  have hy:=(List.pairwise_cons.mp h2)
  have e:x=y:=by
   have m1:x∈y::l':=h.mem_iff.mp aH
   have m2:y∈x::l:=h.mem_iff.mpr aH
   rcases List.mem_cons.mp m1 with z | z
   ·exact z
   ·rcases List.mem_cons.mp m2 with z2 | z2
    ·exact z2.symm
    ·exact iC (hx.1 y z2) (hy.1 x z)
  subst e
  rw [yl (nM h) hx.2 hy.2]
theorem jX.unique {rs:List Rch}{ws ws':List (List Int)}(h:jX rs ws) (h':jX rs ws'):ws=ws':=by
 have p:(ws.map cE).Perm (ws'.map cE):=(h.1.trans h'.1.symm).map _
 have e:=yl (O:=uU) p h.2 h'.2
 have e2:=congrArg (rQ cE) e
 rw [bP,bP,show (cE ∘ cE:List Int->List Int)=id from funext λx=>eN x,mI,mI] at e2
 exact e2
theorem Qq (rs:List Rch) (t:Int) (hs:List Int):tos (rs++[(t,hs)])=tos rs++[t]:=by unfold tos;rw [aA];rfl
theorem uf {rs:List Rch}{x d:Rch}{i:Nat}(h:i<rs.length):(rs++[x]).getD i d=rs.getD i d:=by
 rw [ak,ak,c8 h]
theorem xy {rs:List Rch}{x d:Rch}:(rs++[x]).getD rs.length d=x:=by
 rw [ak,bK (ao _),oC]
 rfl
theorem gf {rs:List Rch}{x:Rch}(h:uD rs=true) (hx:okR rs.length x=true):uD (rs++[x])=true:=by
 unfold uD at h ⊢
 rw [bM] at h ⊢
 intro i hi
 have hi':i<rs.length+1:=by have:=List.mem_range.mp hi;rw [aq,b9] at this;exact this
 by_cases hlt:i<rs.length
 ·rw [uf hlt];exact h i (List.mem_range.mpr hlt)
 ·have e:i=rs.length:=∅
  subst e
  rw [xy];exact hx
theorem ku {rs:List Rch}{x:Rch}(L:xr rs):∀(f r:Nat),r<rs.length->yV (rs++[x]) f r=yV rs f r
 | 0,_,_=>rfl
 | f+1,r,hr=>by
  have e:xO (rs++[x]) r=xO rs r:=by unfold xO;rw [uf hr]
  unfold yV
  rw [e]
  by_cases ht:xO rs r<0
  ·rw [if_pos ht,if_pos ht]
  ·rw [if_neg ht,if_neg ht,ku L f _ (by have:=L.lt hr;omega)]
theorem yP {rs:List Rch}{x:Rch}(L:xr rs) {r:Nat}(hr:r<rs.length):qu (rs++[x]) r=qu rs r:=ku L _ r hr
theorem xS {rs:List Rch}{x:Rch}:∀(way:List Int),(∀r∈way,0<=r/\r<rs.length)->jy (rs++[x]) way=jy rs way
 | [],_=>rfl
 | r::way,h=>by
  have h0:=h r aH
  rw [xg,xg,xS way λy hy=>h y (aD _ hy)]
  congr 2
  unfold zA
  rw [uf ∅]
theorem QG {rs:List Rch}(L:xr rs) {t:Int}(h:t∈tos rs):t+1<rs.length:=by
 unfold tos at h
 obtain ⟨r,hr,rfl⟩:=List.mem_map.mp h
 obtain ⟨i,hi,e⟩:=List.mem_iff_getElem.mp hr
 have:=L.lt hi
 rw [gX (ae hi),e] at this
 omega
theorem QX {rs:List Rch}{t:Int}{hs:List Int}(L:xr rs) (h0:0<=t) (h1:t<rs.length) :
  (jq (rs++[(t,hs)])).length=if t∈tos rs then (jq rs).length+1 else (jq rs).length:=by
 unfold jq
 rw [aq,b9,cj,ck,aq]
 have e1:(fq (jL (rs++[(t,hs)])) [rs.length]).length=1:=by
  have:jL (rs++[(t,hs)]) rs.length=true:=by
   unfold jL
   rw [Qq,decide_eq_false]
   ·rfl
   ·intro z
    rcases List.mem_append.mp z with z | z
    ·have:=QG L z;omega
    ·have:(rs.length:Int)=t:=by simpa using z
     omega
  simp [this]
 rw [e1]
 have e2:∀h,jL (rs++[(t,hs)]) h=(jL rs h && !decide ((h:Int)=t)):=λh=>by
  unfold jL
  rw [Qq]
  by_cases a:(h:Int)∈tos rs
  ·rw [decide_eq_true (i9 _ a),decide_eq_true a];rfl
  ·rw [decide_eq_false a]
   by_cases b:(h:Int)=t
   ·rw [decide_eq_true (aI _ (by simp [b])),decide_eq_true b];rfl
   ·rw [decide_eq_false (λz=>(List.mem_append.mp z).elim a λy=>b (by simpa using y)),decide_eq_false b];rfl
 have e3:fq (jL (rs++[(t,hs)])) (aF rs.length)=fq (λh:Nat=>!decide ((h:Int)=t)) (fq (jL rs) (aF rs.length)):=by
  rw [List.filter_filter]
  congr 1
  funext h
  rw [e2,Bool.and_comm]
 rw [e3]
 have nd:(fq (jL rs) (aF rs.length)).Nodup:=List.Nodup.sublist List.filter_sublist oY
 generalize hl:fq (jL rs) (aF rs.length)=l at nd
 have cnt:∀(l:List Nat),l.Nodup->(fq (λh:Nat=>!decide ((h:Int)=t)) l).length=if t.toNat∈l then l.length-1 else l.length:=by
  intro l
  induction l with
  | nil=>intro _;rfl
  | cons x l ih =>
   intro nd
   have nd':=List.nodup_cons.mp nd
   have ih:=ih nd'.2
   by_cases b:(x:Int)=t
   ·have hx:x=t.toNat:=∅
    rw [ft (by simp [b]),ih,if_neg (by rw [<- hx];exact nd'.1),if_pos (by rw [hx];exact aH)]
    simp
   ·have hx:t.toNat≠x:=∅
    rw [fA (by simp [b]),bj,ih]
    by_cases m:t.toNat∈l
    ·rw [if_pos m,if_pos (aD _ m),bj]
     have:0<l.length:=fM m
     omega
    ·rw [if_neg m,if_neg (λz=>(List.mem_cons.mp z).elim hx m)]
     simp
 rw [cnt l nd]
 have hm:t.toNat∈l↔¬t∈tos rs:=by
  rw [<- hl,List.mem_filter,List.mem_range]
  unfold jL
  have e:((t.toNat:Nat):Int)=t:=∅
  rw [e]
  constructor
  ·rintro ⟨_,z⟩ y
   rw [decide_eq_true y] at z
   cases z
  ·intro z
   exact ⟨∅,by rw [decide_eq_false z];rfl⟩
 by_cases m:t∈tos rs
 ·rw [if_pos m,if_neg (by rw [hm];exact λz=>z m)]
 ·rw [if_neg m,if_pos (by rw [hm];exact m)]
  have:0<l.length:=fM (hm.mpr m)
  omega
structure Grown (rs:List Rch):Prop where
 ok:uD rs=true
 heads:(jq rs).length<=6
 deep:∀i,i<rs.length->jy rs (qu rs i)<=30
theorem Grown.snoc {rs:List Rch}{t:Int}{hs:List Int}(G:Grown rs) (h0:0<=t) (h1:t<rs.length) (hx:okR rs.length (t,hs)=true) (hh:t∈tos rs->(jq rs).length<6) (hd:jy rs (qu rs t.toNat)+hs.length<=30):Grown (rs++[(t,hs)]):=by
 have L:=qe G.ok
 have ok':=gf G.ok hx
 refine ⟨ok',?_,λi hi=>?_⟩
 ·rw [QX L h0 h1]
  split
  ·rename_i m;have:=hh m;omega
  ·exact G.heads
 ·rw [aq,b9] at hi
  by_cases hlt:i<rs.length
  ·rw [yP L hlt,xS _ (xM L i hlt)]
   exact G.deep i hlt
  ·have e:i=rs.length:=∅
   subst e
   have L':=qe ok'
   have et:xO (rs++[(t,hs)]) rs.length=t:=by unfold xO;rw [xy]
   have eh:zA (rs++[(t,hs)]) rs.length=hs:=by unfold zA;rw [xy]
   rw [zt L' (by rw [aq,b9];omega),xg,bw,eh,et,if_neg ∅,yP L ∅,xS _ (xM L _ ∅)]
   omega
theorem Grown.good {rs:List Rch}(G:Grown rs) (h1:1<=rs.length) (h8:rs.length<=8):zr rs=true:=by
 unfold zr
 rw [decide_eq_true (show 1<=(rs.length:Int)/\(rs.length:Int)<=8 by omega),G.ok,decide_eq_true (show ((jq rs).length:Int)<=6 by have:=G.heads;omega),eC,eC,eC,bM]
 intro h hh
 exact decide_eq_true (G.deep h (xD hh))
theorem Grown.deep_snoc {rs:List Rch}{t:Int}{hs:List Int}(G:Grown rs) (h0:0<=t) (h1:t<rs.length) (hx:okR rs.length (t,hs)=true):jy (rs++[(t,hs)]) (qu (rs++[(t,hs)]) rs.length)=jy rs (qu rs t.toNat)+hs.length:=by
 have L:=qe G.ok
 have L':=qe (gf G.ok hx)
 have et:xO (rs++[(t,hs)]) rs.length=t:=by unfold xO;rw [xy]
 have eh:zA (rs++[(t,hs)]) rs.length=hs:=by unfold zA;rw [xy]
 rw [zt L' (by rw [aq,b9];omega),xg,bw,eh,et,if_neg ∅,yP L ∅,xS _ (xM L _ ∅)]
 omega
noncomputable def jk (H H':Hp):Prop:=∀p xs,H p=some (.tup xs)->H' p=some (.tup xs)
theorem jk.same {H H':Hp}(s:jn H H'):jk H H':=λ_ _ h=>s _ _ h
theorem jk.trans {H H1 H2:Hp}(a:jk H H1) (b:jk H1 H2):jk H H2:=λp xs h=>b p xs (a p xs h)
theorem jk.ext {b:Addr}{H H':Hp}(e:Ext b H H') (h:∀xs,H b≠some (.tup xs)):jk H H':=λp xs q=>e _ _ q λz=>h xs (z ▸ q)
theorem jk.lst {b:Addr}{H H':Hp}{xs:List V}(e:Ext b H H') (h:H b=some (.lst xs)):jk H H':=.ext e λys z=>by rw [h] at z;cases z
theorem jk.new {b:Addr}{H H':Hp}(e:Ext b H H') (h:H b=none):jk H H':=.ext e λys z=>by rw [h] at z;cases z
theorem jk.tbl {b:Addr}{H H':Hp}{ps:Array af}(e:Ext b H H') (h:H b=some (.tbl ps)):jk H H':=.ext e λys z=>by rw [h] at z;cases z
noncomputable def gU (H:Hp) (v:V) (r:Rch):Prop:=∃p g,v=V.ref p/\H p=some (.tup [.int r.1,.ref g])/\H g=some (.tup (r.2.map V.int))
noncomputable def jU (H:Hp) (vs:List V) (rs:List Rch):Prop:=cO (gU H) vs rs
theorem gU.keep {H H':Hp}{v:V}{r:Rch}(k:jk H H') (h:gU H v r):gU H' v r:=by
 obtain ⟨p,g,e,h1,h2⟩:=h
 exact ⟨p,g,e,k _ _ h1,k _ _ h2⟩
theorem jU.keep {H H':Hp}{vs:List V}{rs:List Rch}(k:jk H H') (h:jU H vs rs):jU H' vs rs:=Paired.mapP h λ_ _ z=>z.keep k
theorem jU.length {H:Hp}{vs:List V}{rs:List Rch}(h:jU H vs rs):vs.length=rs.length:=aX h
theorem jU.get {H:Hp}{vs:List V}{rs:List Rch}{i:Nat}{v:V}(h:jU H vs rs) (e:vs[i]? = some v):∃r,rs[i]? = some r/\gU H v r:=Paired.get h e
theorem jU.at {H:Hp}{vs:List V}{rs:List Rch}{i:Nat}{r:Rch}(h:jU H vs rs) (e:rs[i]? = some r):∃v,vs[i]? = some v/\gU H v r:=by
 have hi:i<vs.length:=by rw [h.length];exact (List.getElem?_eq_some_iff.mp e).1
 obtain ⟨r',e2,q⟩:=h.get (ae hi)
 rw [e] at e2
 cases e2
 exact ⟨_,ae hi,q⟩
theorem jU.snoc {H:Hp}{vs:List V}{rs:List Rch}{v:V}{r:Rch}(h:jU H vs rs) (q:gU H v r):jU H (vs++[v]) (rs++[r]):=cP h q
noncomputable def zQ (H:Hp) (vs:List V) (ws:List (List Int)):Prop:=cO (λv (w:List Int)=>∃a,v=V.ref a/\H a=some (.tup (w.map V.int))) vs ws
theorem zQ.keep {H H':Hp}{vs:List V}{ws:List (List Int)}(k:jk H H') (h:zQ H vs ws):zQ H' vs ws:=Paired.mapP h λ_ _ ⟨a,e,q⟩=>⟨a,e,k _ _ q⟩
theorem zQ.length {H:Hp}{vs:List V}{ws:List (List Int)}(h:zQ H vs ws):vs.length=ws.length:=aX h
theorem yI (x:Int) (l:List Int):inV (.int x) (l.map V.int)=decide (x∈l):=by
 unfold inV
 induction l with
 | nil=>rfl
 | cons y l ih =>
  rw [aJ,eX,ih]
  by_cases e:x=y
  ·subst e
   rw [decide_eq_true (aH (a:=x))]
   simp [eqV]
  ·by_cases m:x∈l
   ·rw [decide_eq_true m,decide_eq_true (aD _ m),Bool.or_true]
   ·rw [decide_eq_false m,decide_eq_false (λz=>(List.mem_cons.mp z).elim e m),Bool.or_false]
    simp [eqV]
    exact λz=>e z.symm
theorem zK (l:List Int):(l.map V.int).all vJ=true:=by
 rw [fL,bM]
 intro x _
 rfl
end L2
end
section
namespace L2
open PySem.W
section
variable {prog:Program}{w:aU}{A:bb}{E:af->Shared->Prop}{s:Shared}
end
end L2
end
section
namespace L2
open PySem.W
section
variable {X:Cx}
end
end L2
end
section
namespace L2
open PySem.W
theorem Vv {X:Cx}{T id:String}{name:Str}{r:V->List V->Hp->VK->Prop}{o:Expr}{to:TE}{apos cpos:Pos}(K:ag) (pa:nB T) (slot:Slot T name id) (hty:oV (.builtin id)=pure (.type "method_descriptor")) (hm:MtR X id r) (ho:PE X o to)
  (hbase:dA o name X.env (eval o X.env)=eval o X.env:=by rfl) (hline:(apos.endLine == cpos.line)=true:=by rfl) (hK:X.K=K:=by rfl) :
  PE X (.Call (.Attribute o name apos) [] [] cpos) (Gs K T r to):=by
 subst hK
 first | exact YO pa slot hty hm ho hbase hline | exact YO pa slot hty hm ho
end L2
end
section
namespace L2
open PySem.W
section
variable {s:Shared}{A:bb}{prog:Program}{w:aU}{E:af->Shared->Prop}
theorem WM {it t:Addr}{k:Nat}{its:Array af}{v:af}{Q:af->Shared->Prop}(q:s.heap.IsTupleIter it t k) (p:s.heap.IsTuple t its) (e:its[k]? = some v)
  (z:∀g,g.IsTupleIter it t (k+1)->cw it s.heap g->Q v { s with heap:=g }):au (aC prog w) A (bu (.ref it)) Q E s:=by
 obtain ⟨ob,gb,cb,db⟩:=id q;obtain ⟨ot,gt,_,nt,dt⟩:=p;unfold bu
 refine aa (bL (name:=aj "__next__") q.typeIs dj (cI dj q.typeIs iG ?_ (ir _)))
 show au _ _ (rR (.ref it) 0 >>= _) _ _ s;refine aa (bC gb db (x:=.ref t) rfl ?_)
 show au _ _ (if (aQ t == aS)=true then _ else _) _ _ s;rw [if_neg (show ¬((aQ t == aS)=true) from ar)]
 show au _ _ (rR (.ref it) 1 >>= _) _ _ s;refine aa (bC gb db (x:=.int k 0) rfl ?_)
 show au _ _ (seqItems? (.ref t) >>= _) _ _ s;refine aa (cQ gt dt ?_)
 simp only [bw,e]
 refine aa (dH gb db (by simp) (wpAny_pure ⟨v,rfl,wpAny_pure (z _ ⟨_,dr _ gb (eG (dS db _)),(oE ..).trans cb,by rw [dS db];simp [bJ]⟩ (eV ..))⟩))
theorem G2 {it t:Addr}{k:Nat}{its:Array af}{Q:af->Shared->Prop}(hh:A.handled=none) (q:s.heap.IsTupleIter it t k) (p:s.heap.IsTuple t its) (e:its[k]? = none)
  (z:∀g x,mJ it s.heap g->(∃o,g.get? x=some o/\o.cls = .type "StopIteration")->E (.ref x) { s with heap:=g }):au (aC prog w) A (bu (.ref it)) Q E s:=by
 obtain ⟨ob,gb,cb,db⟩:=id q;obtain ⟨ot,gt,_,nt,dt⟩:=p;unfold bu
 refine aa (bL (name:=aj "__next__") q.typeIs dj (cI dj q.typeIs iG ?_ (ir _)))
 show au _ _ (rR (.ref it) 0 >>= _) _ _ s;refine aa (bC gb db (x:=.ref t) rfl ?_)
 show au _ _ (if (aQ t == aS)=true then _ else _) _ _ s;rw [if_neg (show ¬((aQ t == aS)=true) from ar)]
 show au _ _ (rR (.ref it) 1 >>= _) _ _ s;refine aa (bC gb db (x:=.int k 0) rfl ?_)
 show au _ _ (seqItems? (.ref t) >>= _) _ _ s;refine aa (cQ gt dt ?_)
 simp only [bw,e]
 refine aa (fY (aa (dH gb db (by simp) ?_)))
 show au _ _ (newExc (.type "StopIteration") [] >>= _) _ _ _;refine aa ?_;simp only [newExc,newTuple]
 refine aa (bx ?_ (by size_fits));refine aa (m:=mK _ _) (wpAny_of_eq (a:=aS) (by first | rfl | (simp only [mK];rfl)) ?_)
 refine bx ?_ (by size_fits);simp only [raiseNew];refine aa (wpAny_handled ?_);first | rw [hh] | rw [show A.in1.handled=none from hh]
 exact aa (wpAny_pure (wpAny_throw (z _ _ (((eV ..).extBut.push _).push _) ⟨_,az _ rfl,rfl⟩)))
structure Feeds (prog:Program) (w:aU) (i l:Addr) (xs:Array af) (S:Nat->Heap->Prop):Prop where
 keep:∀k h h',S k h->(∀o,h.get? i=some o->h'.get? i=some o)->(∀o,h.get? l=some o->h'.get? l=some o)->S k h'
 obj:∀k h,S k h->∃o,h.get? i=some o/\∀v,o.data≠.cell v
 item:∀(A:bb) (E:af->Shared->Prop) (k:Nat) (x:af) (s:Shared) (Q:af->Shared->Prop),S k s.heap->xs[k]? = some x->(∀g,S (k+1) g->cw i s.heap g->Q x { s with heap:=g })->au (aC prog w) A (bu (.ref i)) Q E s
 done:∀(A:bb) (E:af->Shared->Prop) (k:Nat) (s:Shared) (Q:af->Shared->Prop),A.handled=none->S k s.heap->xs[k]? = none->(∀g x,mJ i s.heap g->(∃o,g.get? x=some o/\o.cls = .type "StopIteration")->E (.ref x) { s with heap:=g })->au (aC prog w) A (bu (.ref i)) Q E s
theorem Feeds.but {i l b:Addr}{xs:Array af}{S:Nat->Heap->Prop}(f:Feeds prog w i l xs S) {k:Nat}{h h':Heap}(q:S k h) (sb:cw b h h') (n1:i≠b) (n2:l≠b):S k h':=f.keep k h h' q (λo e=>sb.extBut _ _ n1 e) λo e=>sb.extBut _ _ n2 e
theorem Qz {i l:Addr}{xs:Array af}(n:l≠i):Feeds prog w i l xs λk h=>h.IsListIter i l k/\h.IsList l xs where
 keep:=λk h h' q k1 k2=>⟨q.1.at λo e=>k1 o e,q.2.at λo e=>k2 o e⟩
 obj:=λk h q=>by obtain ⟨o,e,_,d⟩:=q.1;exact ⟨o,e,λv z=>by rw [d] at z;cases z⟩
 item:=λA E k x s Q q e z=>wpAny_nextOf_list_item q.1 q.2 e λg q1 sb=>z g ⟨q1,q.2.extBut sb.extBut n⟩ sb
 done:=λA E k s Q hh q e z=>wpAny_nextOf_list_end hh q.1 q.2 e z
theorem ZC {i l:Addr}{xs:Array af}(n:l≠i):Feeds prog w i l xs λk h=>h.IsTupleIter i l k/\h.IsTuple l xs where
 keep:=λk h h' q k1 k2=>⟨q.1.at λo e=>k1 o e,let ⟨o,e,r⟩:=q.2;⟨o,k2 o e,r⟩⟩
 obj:=λk h q=>by obtain ⟨o,e,_,d⟩:=q.1;exact ⟨o,e,λv z=>by rw [d] at z;cases z⟩
 item:=λA E k x s Q q e z=>WM q.1 q.2 e λg q1 sb=>z g ⟨q1,q.2.extBut sb.extBut n⟩ sb
 done:=λA E k s Q hh q e z=>G2 hh q.1 q.2 e z
theorem Vj {z TI TO i1 i2 l1 l2:Addr}{k1 k2:Nat}{xs ys:Array af}{x y a b:af}{S1 S2:Nat->Heap->Prop}{Q:af->Shared->Prop}(D:mL z TI TO i1 i2 l1 l2) (f1:Feeds prog w i1 l1 xs S1) (f2:Feeds prog w i2 l2 ys S2)
  (g0:iR s.heap z TI TO .none) (gI:dB s.heap TI (.ref i1) (.ref i2)) (gO:dB s.heap TO a b) (q1:S1 k1 s.heap) (q2:S2 k2 s.heap) (ex:xs[k1]? = some x) (ey:ys[k2]? = some y)
  (R:∀g,iR g z TI TO (bJ s.heap.objs.size)->dB g TO x y->S1 (k1+1) g->S2 (k2+1) g->dB g s.heap.objs.size x y->g.objs.size=s.heap.objs.size+1 ->
   (∀c o,c≠z->c≠TO->c≠i1->c≠i2->s.heap.get? c=some o->g.get? c=some o)->Q (.ref s.heap.objs.size) { s with heap:=g }):au (aC prog w) A (dO.«zip.__next__» ⟨[.ref z],[]⟩) (λfin s'=>∃v,fin = .done (.ret v)/\Q v s') E s:=by
 show au _ _ (rR (.ref z) 2 >>= _) _ _ _;refine aa (bC g0 rfl (x:=.bool false) rfl ?_)
 show au _ _ (rR (.ref z) 3 >>= _) _ _ _;refine aa (bC g0 rfl (x:=.ref TI) rfl ?_)
 refine aa (cQ gI rfl ?_);show au _ _ (cg (.ref z) >>= _) _ _ _
 refine aa ?_;unfold cg;refine aa (bC g0 rfl (x:=.none) rfl (wpAny_pure ?_));simp only [if_true]
 refine aa (fY ?_);refine aa (bC g0 rfl (x:=.ref TO) rfl ?_)
 refine aa (dm g0 (by simp) λh1 g1 e1=>?_)
 replace g1:iR h1 z TI TO .ellipsis:=g1
 refine aa ?_;simp only [oZ,pO,ip,rS]
 refine aa (aa (lA ?_));show au _ _ (bu (.ref i1) >>= _) _ _ _
 refine aa (f1.item _ _ k1 x _ _ (f1.but q1 e1 D.i1z D.l1z) ex λh2 q1' e2=>wpAny_pure ?_)
 have gO2:dB h2 TO a b:=e2.extBut _ _ D.TOi1 (e1.extBut _ _ D.TOz gO)
 refine aa (cQ gO2 rfl ?_);refine aa (ic gO2 λh3 gO3 e3=>?_)
 replace gO3:dB h3 TO x b:=gO3
 refine aa (mH (wpAny_pure ?_));refine aa (aa (lA ?_));show au _ _ (bu (.ref i2) >>= _) _ _ _
 refine aa (f2.item _ _ k2 y _ _ (f2.but (f2.but (f2.but q2 e1 D.i2z D.l2z) e2 D.i12.symm D.l2i1) e3 D.TOi2.symm D.l2TO) ey λh4 q2' e4=>wpAny_pure ?_)
 have gO4:dB h4 TO x b:=e4.extBut _ _ D.TOi2 gO3
 refine aa (cQ gO4 rfl ?_);refine aa (ic gO4 λh5 gO5 e5=>?_)
 replace gO5:dB h5 TO x y:=gO5
 refine aa (mH (wpAny_pure (wpAny_pure ?_)));refine aa (cQ gO5 rfl ?_);refine aa (fK ?_)
 have sz:h5.objs.size=s.heap.objs.size:=by rw [e5.1,e4.1,e3.1,e2.1,e1.1]
 have g5:iR h5 z TI TO .ellipsis:=e5.extBut _ _ D.TOz.symm (e4.extBut _ _ D.i2z.symm (e3.extBut _ _ D.TOz.symm (e2.extBut _ _ D.i1z.symm g1)))
 have k5:∀c o,c≠z->c≠TO->c≠i1->c≠i2->s.heap.get? c=some o->h5.get? c=some o:=λc o n1 n2 n3 n4 e=>e5.extBut _ _ n2 (e4.extBut _ _ n4 (e3.extBut _ _ n2 (e2.extBut _ _ n3 (e1.extBut _ _ n1 e))))
 have q15:S1 (k1+1) h5:=f1.but (f1.but (f1.but q1' e3 D.TOi1.symm D.l1TO) e4 D.i12 D.l1i2) e5 D.TOi1.symm D.l1TO
 have q25:S2 (k2+1) h5:=f2.but q2' e5 D.TOi2.symm D.l2TO
 have lz:z<h5.objs.size:=ay g5
 show au _ _ (eW (.ref z) (.ref h5.objs.size) >>= _) _ _ _;refine aa ?_;unfold eW
 have g6:iR (h5.push { cls:=.type "tuple",data:=.seq #[x,y] }) z TI TO .ellipsis:=ai _ g5
 refine aa (dm g6 (by simp) λh7 g7 e7=>?_)
 replace g7:iR h7 z TI TO (bJ h5.objs.size):=g7
 refine dm g7 (by simp) λh8 g8 e8=>?_
 replace g8:iR h8 z TI TO (bJ h5.objs.size):=g8
 have up:∀c o,c≠z->h5.get? c=some o->h8.get? c=some o:=λc o n e=>e8.extBut _ _ n (e7.extBut _ _ n (ai _ e))
 have gT:dB h8 h5.objs.size x y:=e8.extBut _ _ (d0 lz) (e7.extBut _ _ (d0 lz) (az _ rfl))
 have sz8:h8.objs.size=h5.objs.size+1:=by rw [e8.1,e7.1,cz]
 rw [sz] at g8 gT sz8
 refine wpAny_pure ⟨_,rfl,?_⟩;show Q (.ref h5.objs.size) _;rw [sz]
 exact R h8 g8 (up _ _ D.TOz gO5) (f1.keep _ _ _ q15 (λo e=>up _ o D.i1z e) λo e=>up _ o D.l1z e) (f2.keep _ _ _ q25 (λo e=>up _ o D.i2z e) λo e=>up _ o D.l2z e) gT sz8 λc o n1 n2 n3 n4 e=>up c o n1 (k5 c o n1 n2 n3 n4 e)
theorem YM {z TI TO i1 i2 l1 l2:Addr}{k1 k2:Nat}{xs ys:Array af}{a b:af}{S1 S2:Nat->Heap->Prop}{Q:Fin->Shared->Prop}(hh:A.handled=none) (D:mL z TI TO i1 i2 l1 l2) (f1:Feeds prog w i1 l1 xs S1) (f2:Feeds prog w i2 l2 ys S2)
  (g0:iR s.heap z TI TO .none) (gI:dB s.heap TI (.ref i1) (.ref i2)) (gO:dB s.heap TO a b) (q1:S1 k1 s.heap) (q2:S2 k2 s.heap) (ed:xs[k1]? = none\/ys[k2]? = none)
  (R:∀g e,(∀c o,c≠z->c≠TO->c≠i1->c≠i2->s.heap.get? c=some o->g.get? c=some o)->(∃o,g.get? e=some o/\o.cls = .type "StopIteration")->E (.ref e) { s with heap:=g }):au (aC prog w) A (dO.«zip.__next__» ⟨[.ref z],[]⟩) Q E s:=by
 show au _ _ (rR (.ref z) 2 >>= _) _ _ _;refine aa (bC g0 rfl (x:=.bool false) rfl ?_)
 show au _ _ (rR (.ref z) 3 >>= _) _ _ _;refine aa (bC g0 rfl (x:=.ref TI) rfl ?_)
 refine aa (cQ gI rfl ?_);show au _ _ (cg (.ref z) >>= _) _ _ _
 refine aa ?_;unfold cg;refine aa (bC g0 rfl (x:=.none) rfl (wpAny_pure ?_));simp only [if_true]
 refine aa (fY ?_);refine aa (bC g0 rfl (x:=.ref TO) rfl ?_)
 refine aa (dm g0 (by simp) λh1 g1 e1=>?_)
 replace g1:iR h1 z TI TO .ellipsis:=g1
 refine aa ?_;simp only [oZ,pO,ip,rS]
 refine aa (aa (lA ?_));show au _ _ (bu (.ref i1) >>= _) _ _ _
 cases ex:xs[k1]? with
 | none =>
  refine aa (f1.done _ _ k1 _ _ hh (f1.but q1 e1 D.i1z D.l1z) ex λh2 e e2 he=>?_)
  obtain ⟨oe,ge,ce⟩:=he
  have g2:iR h2 z TI TO .ellipsis:=e2 _ _ D.i1z.symm g1
  have ne:e≠z:=λq=>by subst q;rw [g2] at ge;cases ge;simp at ce
  exact dm g2 (by simp) λh3 _ e3=>R h3 e (λc o n1 _ n3 _ q=>e3.extBut _ _ n1 (e2 _ _ n3 (e1.extBut _ _ n1 q))) ⟨oe,e3.extBut _ _ ne ge,ce⟩
 | some x =>
  have ey:ys[k2]? = none:=by rcases ed with q | q;rw [ex] at q;cases q;exact q
  refine aa (f1.item _ _ k1 x _ _ (f1.but q1 e1 D.i1z D.l1z) ex λh2 q1' e2=>wpAny_pure ?_)
  have gO2:dB h2 TO a b:=e2.extBut _ _ D.TOi1 (e1.extBut _ _ D.TOz gO)
  refine aa (cQ gO2 rfl ?_);refine aa (ic gO2 λh3 gO3 e3=>?_)
  refine aa (mH (wpAny_pure ?_));refine aa (aa (lA ?_));show au _ _ (bu (.ref i2) >>= _) _ _ _
  refine aa (f2.done _ _ k2 _ _ hh (f2.but (f2.but (f2.but q2 e1 D.i2z D.l2z) e2 D.i12.symm D.l2i1) e3 D.TOi2.symm D.l2TO) ey λh4 e e4 he=>?_)
  obtain ⟨oe,ge,ce⟩:=he
  have g4:iR h4 z TI TO .ellipsis:=e4 _ _ D.i2z.symm (e3.extBut _ _ D.TOz.symm (e2.extBut _ _ D.i1z.symm g1))
  have ne:e≠z:=λq=>by subst q;rw [g4] at ge;cases ge;simp at ce
  exact dm g4 (by simp) λh5 _ e5=>R h5 e (λc o n1 n2 n3 n4 q=>e5.extBut _ _ n1 (e4 _ _ n4 (e3.extBut _ _ n2 (e2.extBut _ _ n3 (e1.extBut _ _ n1 q))))) ⟨oe,e5.extBut _ _ ne ge,ce⟩
theorem G4 {z TI TO i1 i2 l1 l2:Addr}{k1 k2:Nat}{xs ys:Array af}{x y a b:af}{S1 S2:Nat->Heap->Prop}{Q:Option af->Shared->Prop}(D:mL z TI TO i1 i2 l1 l2) (f1:Feeds prog w i1 l1 xs S1) (f2:Feeds prog w i2 l2 ys S2)
  (g0:iR s.heap z TI TO .none) (gI:dB s.heap TI (.ref i1) (.ref i2)) (gO:dB s.heap TO a b) (q1:S1 k1 s.heap) (q2:S2 k2 s.heap) (ex:xs[k1]? = some x) (ey:ys[k2]? = some y)
  (R:∀g,iR g z TI TO (bJ s.heap.objs.size)->dB g TO x y->S1 (k1+1) g->S2 (k2+1) g->dB g s.heap.objs.size x y->g.objs.size=s.heap.objs.size+1 ->
   (∀c o,c≠z->c≠TO->c≠i1->c≠i2->s.heap.get? c=some o->g.get? c=some o)->Q (some (.ref s.heap.objs.size)) { s with heap:=g }):au (aC prog w) A (eU (.ref z)) Q E s:=by
 have ty:s.TypeIs (.ref z) "zip":=⟨_,g0,rfl⟩
 unfold eU;exact aa (i8 (bL (name:=aj "__next__") ty iu (cI iu ty pe
   (Vj D f1 f2 g0 gI gO q1 q2 ex ey λg a1 a2 a3 a4 a5 a6 a7=>wpAny_pure (R g a1 a2 a3 a4 a5 a6 a7)) (oF _))))
theorem WY {z TI TO i1 i2 l1 l2:Addr}{k1 k2:Nat}{xs ys:Array af}{a b:af}{S1 S2:Nat->Heap->Prop}{Q:Option af->Shared->Prop}(hh:A.handled=none) (D:mL z TI TO i1 i2 l1 l2) (f1:Feeds prog w i1 l1 xs S1) (f2:Feeds prog w i2 l2 ys S2)
  (g0:iR s.heap z TI TO .none) (gI:dB s.heap TI (.ref i1) (.ref i2)) (gO:dB s.heap TO a b) (q1:S1 k1 s.heap) (q2:S2 k2 s.heap) (ed:xs[k1]? = none\/ys[k2]? = none)
  (R:∀g,(∀c o,c≠z->c≠TO->c≠i1->c≠i2->s.heap.get? c=some o->g.get? c=some o)->Q none { s with heap:=g }):au (aC prog w) A (eU (.ref z)) Q E s:=by
 have ty:s.TypeIs (.ref z) "zip":=⟨_,g0,rfl⟩
 unfold eU;refine aa (i8 (bL (name:=aj "__next__") ty iu (cI iu ty pe (YM hh D f1 f2 g0 gI gO q1 q2 ed λg e hk he=>?_) (oF _))))
 obtain ⟨o,ho,hc⟩:=he
 exact aa (pf (T:="StopIteration") (b:=true) ⟨o,ho,hc⟩ isSubtype_stop (wpAny_pure (R _ hk)))
noncomputable def UR (t:Bool):String:=match t with | true=>"tuple_iterator" | false=>"list_iterator"
noncomputable def ItK (t:Bool) (h:Heap) (i l:Addr) (k:Nat):Prop:=match t with | true=>h.IsTupleIter i l k | false=>h.IsListIter i l k
noncomputable def IsK (t:Bool) (h:Heap) (l:Addr) (xs:Array af):Prop:=match t with | true=>h.IsTuple l xs | false=>h.IsList l xs
noncomputable def SqK (t:Bool) (K:ag) (H:Hp) (a:Addr) (xs:List V):Prop:=match t with | true=>SqT K H a xs | false=>SqL K H a xs
theorem IsK.at {t:Bool}{h h':Heap}{l:Addr}{xs:Array af}(q:IsK t h l xs) (k:∀o,h.get? l=some o->h'.get? l=some o):IsK t h' l xs:=by
 cases t with
 | true=>obtain ⟨o,e,r⟩:=q;exact ⟨o,k o e,r⟩
 | false=>exact Heap.IsList.at q λo e=>k o e
theorem IsK.lt {t:Bool}{h:Heap}{l:Addr}{xs:Array af}(q:IsK t h l xs):l<h.objs.size:=by
 cases t with
 | true=>obtain ⟨o,e,r⟩:=q;exact ay e
 | false=>obtain ⟨o,e,r⟩:=q;exact ay e
theorem ItK.at {t:Bool}{h h':Heap}{i l:Addr}{k:Nat}(q:ItK t h i l k) (f:∀o,h.get? i=some o->h'.get? i=some o):ItK t h' i l k:=by
 cases t with
 | true=>obtain ⟨o,e,r⟩:=q;exact ⟨o,f o e,r⟩
 | false=>obtain ⟨o,e,r⟩:=q;exact ⟨o,f o e,r⟩
theorem ItK.obj {t:Bool}{h:Heap}{i l:Addr}{k:Nat}(q:ItK t h i l k):∃o,h.get? i=some o/\∀v,o.data≠.cell v:=by
 cases t with
 | true=>obtain ⟨o,e,_,d⟩:=q;exact ⟨o,e,λv z=>by rw [d] at z;cases z⟩
 | false=>obtain ⟨o,e,_,d⟩:=q;exact ⟨o,e,λv z=>by rw [d] at z;cases z⟩
theorem ItK.of {t:Bool}{h:Heap}{i l:Addr}(e:h.get? i=some { cls:=.type (UR t),data:=.fields #[.ref l,.int 0 0] }):ItK t h i l 0:=by
 cases t with
 | true=>exact ⟨_,e,rfl,rfl⟩
 | false=>exact ⟨_,e,rfl,rfl⟩
theorem Jj {t:Bool}{i l:Addr}{xs:Array af}(n:l≠i):Feeds prog w i l xs λk h=>ItK t h i l k/\IsK t h l xs:=by
 cases t with
 | true=>exact ZC n
 | false=>exact Qz n
theorem XW {t:Bool}{l:Addr}{xs:Array af}{Q:af->Shared->Prop}(q:IsK t s.heap l xs) (z:Q (.ref s.heap.objs.size) { s with heap:=s.heap.push { cls:=.type (UR t),data:=.fields #[.ref l,.int 0 0] } }):au (aC prog w) A (lq (.ref l)) Q E s:=by
 cases t with
 | true=>exact nj q z
 | false=>exact eI q z
noncomputable abbrev zp1 (t:Bool) (h:Heap) (l:Addr):Heap:=h.push { cls:=.type (UR t),data:=.fields #[.ref l,.int 0 0] }
noncomputable abbrev zp2 (t u:Bool) (h:Heap) (l m:Addr):Heap:=zp1 u (zp1 t h l) m
noncomputable abbrev zp3 (t u:Bool) (h:Heap) (l m:Addr):Heap:=(zp2 t u h l m).push { cls:=.type "tuple",data:=.seq #[.ref h.objs.size,.ref (zp1 t h l).objs.size] }
noncomputable abbrev zp4 (t u:Bool) (h:Heap) (l m:Addr):Heap:=(zp3 t u h l m).push { cls:=.type "tuple",data:=.seq #[.none,.none] }
noncomputable abbrev zp5 (t u:Bool) (h:Heap) (l m:Addr):Heap:=(zp4 t u h l m).push { cls:=.type "zip",data:=.fields #[.none,.bool false,.bool false,.ref (zp2 t u h l m).objs.size,.ref (zp3 t u h l m).objs.size] }
theorem Y4 (t u:Bool) (l m:Addr) (xs ys:Array af) :
  Meets (dO.«zip.__new__» ⟨[.type "zip",.ref l,.ref m],[]⟩) (λ_ R s=>IsK t s.heap l xs/\IsK u s.heap m ys/\R (.ok (.ret (.ref (zp4 t u s.heap l m).objs.size))) { s with heap:=zp5 t u s.heap l m }) :=
 .of_wp λprog w A R s0 h=>by
  obtain ⟨hp,g,d,tk,os⟩:=s0;obtain ⟨q1,q2,h⟩:=h;have hsub:=sub_zip
  have p1:IsK t (Shared.heap ⟨hp,g,d,tk,os⟩) l xs:=q1
  have p2:IsK u (Shared.heap ⟨zp1 t hp l,g,d,tk,os⟩) m ys:=q2.at λo e=>ai _ e
  wp_walk using XW p1,XW p2
  exact ⟨_,rfl,h⟩
theorem UM {t u:Bool}{l m:Addr}{xs ys:Array af}{Q:af->Shared->Prop}(q1:IsK t s.heap l xs) (q2:IsK u s.heap m ys)
  (R:∀g,iR g (s.heap.objs.size+4) (s.heap.objs.size+2) (s.heap.objs.size+3) .none->dB g (s.heap.objs.size+2) (.ref s.heap.objs.size) (.ref (s.heap.objs.size+1)) ->
   dB g (s.heap.objs.size+3) .none .none->ItK t g s.heap.objs.size l 0->ItK u g (s.heap.objs.size+1) m 0->(∀c o,s.heap.get? c=some o->g.get? c=some o)->Q (.ref (s.heap.objs.size+4)) { s with heap:=g }) :
  au (aC prog w) A (call (.type "zip") [.ref l,.ref m]) Q E s:=by
 refine callType_new F.called_zip ⋯ (F.typeCall_zip_2 _ _) (F.newCall_zip_2 _ _) (λobj=>F.args_object_init_3 obj _ _) F.entry_zip_new (Y4 t u l m xs ys) ⟨q1,q2,?_⟩
 have z1:(zp1 t s.heap l).objs.size=s.heap.objs.size+1:=cz ..
 have z2:(zp2 t u s.heap l m).objs.size=s.heap.objs.size+2:=by rw [cz,z1]
 have z3:(zp3 t u s.heap l m).objs.size=s.heap.objs.size+3:=by rw [cz,z2]
 have z4:(zp4 t u s.heap l m).objs.size=s.heap.objs.size+4:=by rw [cz,z3]
 have g5:(zp5 t u s.heap l m).get? (zp4 t u s.heap l m).objs.size=some _:=az _ rfl
 have g4:(zp5 t u s.heap l m).get? (zp3 t u s.heap l m).objs.size=some _:=ai _ (az _ rfl)
 have g3:(zp5 t u s.heap l m).get? (zp2 t u s.heap l m).objs.size=some _:=ai _ (ai _ (az _ rfl))
 have g2:(zp5 t u s.heap l m).get? (zp1 t s.heap l).objs.size=some _:=ai _ (ai _ (ai _ (az _ rfl)))
 have g1:(zp5 t u s.heap l m).get? s.heap.objs.size=some _:=ai _ (ai _ (ai _ (ai _ (az _ rfl))))
 show _/\_
 rw [z2,z3,z4] at g5;rw [z1,z2] at g3;rw [z3] at g4;rw [z1] at g2;rw [z4]
 exact ⟨⟨_,g5,rfl⟩,R _ g5 g3 g4 (.of g1) (.of g2) λc o x=>ai _ (ai _ (ai _ (ai _ (ai _ x))))⟩
end
section
variable {X:Cx}{s:Shared}{σ:St}{H:Hp}{pins:List (Addr×Obj)}
theorem Zf {t:Bool}{a:Addr}{xs:List V}(I:Inv X pins σ H s) (h:SqK t X.K H a xs):∃its:List af,jz xs its/\IsK t s.heap a its.toArray/\xs.length<=sizeLine:=by
 cases t with
 | true=>exact I.tuple h
 | false=>obtain ⟨its,r,p,z⟩:=I.list h;exact ⟨its,r,p.isList,z⟩
theorem Qa {t:Bool}{a:Addr}{xs ys:List V}(I:Inv X pins σ H s) (h:SqK t X.K H a xs) (h':SqK t X.K H a ys):xs=ys:=by
 cases t with
 | true=>exact I.tuple_inj h h'
 | false=>exact I.list_inj h h'
end
noncomputable def Va (K:ag) (t u:Bool) (l1 l2:Addr):It :=
 ⟨λi H=>∃xs ys x y,SqK t K H l1 xs/\SqK u K H l2 ys/\xs[i]? = some x/\ys[i]? = some y,λi H v H'=>∃p x y,v = .ref p/\H p=none/\H'=upd H p (.tup [x,y])/\(∀xs,SqK t K H l1 xs->xs[i]? = some x)/\∀ys,SqK u K H l2 ys->ys[i]? = some y,
  λi H=>∃xs ys,SqK t K H l1 xs/\SqK u K H l2 ys/\(xs.length<=i\/ys.length<=i)⟩
theorem ZI {t u:Bool}{P:Program}{w:aU}{K:ag}{es:List Expr}{x1:Nat}{pos:Pos}{z TI TO i1 i2 l1 l2:Addr}(D:mL z TI TO i1 i2 l1 l2) :
  Turn P w K (.Tuple es x1 pos) (Va K t u l1 l2) [z,TI,TO,i1,i2] z (λi h=>∃a b,iR h z TI TO .none/\dB h TI (.ref i1) (.ref i2)/\dB h TO a b/\ItK t h i1 l1 i/\ItK u h i2 l2 i) where
 mem:=by simp
 obj:=λi h ⟨a,b,t1,t2,t3,t4,t5⟩ c hc=>by
  simp only [eE,eS,or_false] at hc
  rcases hc with rfl | rfl | rfl | rfl | rfl
  ·exact ⟨_,t1,λv e=>by have e':mz _=lF v:=e;cases e'⟩
  ·exact ⟨_,t2,λv e=>by have e':Data.seq _ _=lF v:=e;cases e'⟩
  ·exact ⟨_,t3,λv e=>by have e':Data.seq _ _=lF v:=e;cases e'⟩
  ·exact t4.obj
  ·exact t5.obj
 keep:=λi h h' ⟨a,b,t1,t2,t3,t4,t5⟩ k=>⟨a,b,k z (by simp) _ t1,k TI (by simp) _ t2,k TO (by simp) _ t3,t4.at λo e=>k i1 (by simp) o e,t5.at λo e=>k i2 (by simp) o e⟩
 item:=by
  intro X hP hw hK hc i pins s σ H E I hf st hg
  subst hP hw hK
  obtain ⟨a,b,t1,t2,t3,t4,t5⟩:=st
  obtain ⟨xs,ys,x,y,hq1,hq2,hx,hy⟩:=hg
  obtain ⟨its1,rv1,p1,_⟩:=Zf I hq1
  obtain ⟨its2,rv2,p2,_⟩:=Zf I hq2
  obtain ⟨u1,hu1,ru1⟩:=rv1.get hx
  obtain ⟨u2,hu2,ru2⟩:=rv2.get hy
  have hn:H s.heap.objs.size=none:=I.hok.fresh (ao _)
  have fz:=hf z (by simp)
  have fTO:=hf TO (by simp)
  have f1:=hf i1 (by simp)
  have f2:=hf i2 (by simp)
  refine G4 D (Jj D.l1i1) (Jj D.l2i2) t1 t2 t3 ⟨t4,p1⟩ ⟨t5,p2⟩ (x:=u1) (y:=u2) (by simpa using hu1) (by simpa using hu2) λh' o1 o2 o3 o4 o5 o6 o7=>⟨_,rfl,?_⟩
  obtain ⟨o3,_⟩:=o3;obtain ⟨o4,_⟩:=o4
  refine wpAny_letOwnedTupleGo_zip o1 λh2 q1 sb=>?_
  have hzl:z<s.heap.objs.size:=ay t1
  have kk:∀c o,c≠z->c≠TO->c≠i1->c≠i2->s.heap.get? c=some o->h2.get? c=some o:=λc o n1 n2 n3 n4 e=>(sb.2 c n1).trans (o7 c o n1 n2 n3 n4 e)
  have et:h2.get? s.heap.objs.size=some { cls:=.type "tuple",data:=.seq #[u1,u2] }:=(sb.2 _ (d0 hzl)).trans o5
  have tne:∀c o,H c=some o->c≠z/\c≠TO/\c≠i1/\c≠i2/\c≠s.heap.objs.size:=λc o q=>⟨λe=>(by rw [e,fz.1] at q;cases q),λe=>(by rw [e,fTO.1] at q;cases q),λe=>(by rw [e,f1.1] at q;cases q),λe=>(by rw [e,f2.1] at q;cases q),λe=>(by rw [e,hn] at q;cases q)⟩
  have getF:∀{c:Addr} {o:HO},H c=some o->upd H s.heap.objs.size (.tup [x,y]) c=some o:=λ{c o} q=>by rw [j6 (tne c o q).2.2.2.2];exact q
  have nin:∀{c:Addr},c∉[z,TO,i1,i2]->c≠z/\c≠TO/\c≠i1/\c≠i2:=λ{c} h=>by simpa using h
  have I1:Inv X pins σ (upd H s.heap.objs.size (.tup [x,y])) { s with heap:=h2,toks:=s.toks }:=by
   refine I.step (g':=s.gens) (d':=s.drawn) (ch:=[z,TO,i1,i2]) (λc hc'=>?_) (λc o _ _ hc' e _=>kk c o (nin hc').1 (nin hc').2.1 (nin hc').2.2.1 (nin hc').2.2.2 e) (λc o _ _ hc' e _=>⟨o.slots,kk c o (nin hc').1 (nin hc').2.1 (nin hc').2.2.1 (nin hc').2.2.2 e⟩)
    (λc o _ e n=>by rw [j6 (aB (ay e))];exact n) (λc o hc' e=>⟨o,kk c o (nin hc').1 (nin hc').2.1 (nin hc').2.2.1 (nin hc').2.2.2 e⟩) (λ_ _ q=>getF q) (λ_ _ _ q=>getF q) (λc ps q=>⟨#[],by rw [getF q];simp⟩) (λm hm=>?_) (λc v q=>?_) I.bare
   ·simp only [eE,eS,or_false] at hc'
    rcases hc' with rfl | rfl | rfl | rfl
    ·exact ⟨fz.2.2.2.1,fz.2.1,fz.2.2.2.2.1,fz.2.2.2.2.2⟩
    ·exact ⟨fTO.2.2.2.1,fTO.2.1,fTO.2.2.2.2.1,fTO.2.2.2.2.2⟩
    ·exact ⟨f1.2.2.2.1,f1.2.1,f1.2.2.2.2.1,f1.2.2.2.2.2⟩
    ·exact ⟨f2.2.2.2.1,f2.2.1,f2.2.2.2.2.1,f2.2.2.2.2.2⟩
   ·obtain ⟨o,es,ep,ho,r⟩:=hm
    exact ⟨o,es,ep,kk _ o (cq fz.2.1) (cq fTO.2.1) (cq f1.2.1) (cq f2.2.1) ho,r⟩
   ·by_cases hb:c=s.heap.objs.size
    ·subst hb
     rw [j5] at q;cases q
     exact ⟨by show 2<=sizeLine;decide,[u1,u2],.cons ru1 (.cons ru2 .nil),⟨_,et,rfl,0,rfl⟩⟩
    ·rw [j6 hb] at q
     have hh:=tne c v q
     refine (I.hok c v q).stay (λc' o hc' e=>?_) (λ_ e=>getF e) λ_ _ e=>getF e
     have hh':c'≠z/\c'≠TO/\c'≠i1/\c'≠i2:=by
      rcases hc' with e | e
      ·rw [e];exact ⟨hh.1,hh.2.1,hh.2.2.1,hh.2.2.2.1⟩
      ·have:=tne c' _ e;exact ⟨this.1,this.2.1,this.2.2.1,this.2.2.2.1⟩
     exact kk c' o hh'.1 hh'.2.1 hh'.2.2.1 hh'.2.2.2 e
  have s2:∀{c:Addr} {o:Obj},c≠z->h'.get? c=some o->h2.get? c=some o:=λn e=>(sb.2 _ n).trans e
  refine ⟨.ref s.heap.objs.size,_,I1,rfl,⟨_,x,y,rfl,hn,rfl,λys' hy'=>by rw [Qa I hy' hq1];exact hx,λys' hy'=>by rw [Qa I hy' hq2];exact hy⟩,⟨u1,u2,q1,kk _ _ D.TIz D.TITO D.TIi1 D.TIi2 t2,s2 D.TOz o2,o3.at λo e=>s2 D.i1z e,o4.at λo e=>s2 D.i2z e⟩,λc hc'=>?_⟩
  have hl:c<s.heap.objs.size:=by
   simp only [eE,eS,or_false] at hc'
   rcases hc' with rfl | rfl | rfl | rfl | rfl
   ·exact hzl
   ·exact ay t2
   ·exact ay t3
   ·obtain ⟨o,e,_⟩:=t4.obj;exact ay e
   ·obtain ⟨o,e,_⟩:=t5.obj;exact ay e
  rw [j6 (aB hl)]
  exact (hf c hc').1
 done:=by
  intro X hP hw hK hc i pins s σ H E I hf st hg
  subst hP hw hK
  obtain ⟨a,b,t1,t2,t3,t4,t5⟩:=st
  obtain ⟨xs,ys,hq1,hq2,hend⟩:=hg
  obtain ⟨its1,rv1,p1,_⟩:=Zf I hq1
  obtain ⟨its2,rv2,p2,_⟩:=Zf I hq2
  have e1:=rv1.length
  have e2:=rv2.length
  have fz:=hf z (by simp)
  have fTO:=hf TO (by simp)
  have f1:=hf i1 (by simp)
  have f2:=hf i2 (by simp)
  have tne:∀c o,H c=some o->c≠z/\c≠TO/\c≠i1/\c≠i2:=λc o q=>⟨λe=>(by rw [e,fz.1] at q;cases q),λe=>(by rw [e,fTO.1] at q;cases q),λe=>(by rw [e,f1.1] at q;cases q),λe=>(by rw [e,f2.1] at q;cases q)⟩
  have nin:∀{c:Addr},c∉[z,TO,i1,i2]->c≠z/\c≠TO/\c≠i1/\c≠i2:=λ{c} h=>by simpa using h
  refine WY (I.ok.hd hc) D (Jj D.l1i1) (Jj D.l2i2) t1 t2 t3 ⟨t4,p1⟩ ⟨t5,p2⟩ ?_ λh' kk=>⟨rfl,?_⟩
  ·rcases hend with h | h
   ·exact .inl (by simp;omega)
   ·exact .inr (by simp;omega)
  ·refine I.step (g':=s.gens) (d':=s.drawn) (t':=s.toks) (ch:=[z,TO,i1,i2]) (λc hc'=>?_) (λc o _ _ hc' e _=>kk c o (nin hc').1 (nin hc').2.1 (nin hc').2.2.1 (nin hc').2.2.2 e) (λc o _ _ hc' e _=>⟨o.slots,kk c o (nin hc').1 (nin hc').2.1 (nin hc').2.2.1 (nin hc').2.2.2 e⟩)
    (λ_ _ _ _ n=>n) (λc o hc' e=>⟨o,kk c o (nin hc').1 (nin hc').2.1 (nin hc').2.2.1 (nin hc').2.2.2 e⟩) (λ_ _ q=>q) (λ_ _ _ q=>q) (λc ps q=>⟨#[],by rw [q];simp⟩) (λm hm=>?_) (λc v q=>?_) I.bare
   ·simp only [eE,eS,or_false] at hc'
    rcases hc' with rfl | rfl | rfl | rfl
    ·exact ⟨fz.2.2.2.1,fz.2.1,fz.2.2.2.2.1,fz.2.2.2.2.2⟩
    ·exact ⟨fTO.2.2.2.1,fTO.2.1,fTO.2.2.2.2.1,fTO.2.2.2.2.2⟩
    ·exact ⟨f1.2.2.2.1,f1.2.1,f1.2.2.2.2.1,f1.2.2.2.2.2⟩
    ·exact ⟨f2.2.2.2.1,f2.2.1,f2.2.2.2.2.1,f2.2.2.2.2.2⟩
   ·obtain ⟨o,es,ep,ho,r⟩:=hm
    exact ⟨o,es,ep,kk _ o (cq fz.2.1) (cq fTO.2.1) (cq f1.2.1) (cq f2.2.1) ho,r⟩
   ·have hh:=tne c v q
    refine (I.hok c v q).stay (λc' o hc' e=>?_) (λ_ e=>e) λ_ _ e=>e
    have hh':c'≠z/\c'≠TO/\c'≠i1/\c'≠i2:=by
     rcases hc' with e | e
     ·rw [e];exact hh
     ·exact tne c' _ e
    exact kk c' o hh'.1 hh'.2.1 hh'.2.2.1 hh'.2.2.2 e
 self:=λ_ _ _ _ _ ⟨_,_,t1,_⟩ h=>ph t1 h
section
variable {X:Cx}
noncomputable def G3 (K:ag) (ta:TA):TI:=λσ H R=>ta σ H λvs H1=>∃t u a b,vs=[.ref a,.ref b]/\(∃xs,SqK t K H1 a xs)/\(∃ys,SqK u K H1 b ys)/\R (Va K t u a b) H1
theorem VW {es:List Expr}{x1:Nat}{tpos:Pos}{l r:Expr}{ta:TA}{p pos:Pos}(K:ag) (hg:Gl X "zip") (hm:X.mg "zip" = none) (ha:PA X [l,r] ta) (hs:aK [l,r] X.env=(false,eval l X.env)::aK [r] X.env:=by rfl) (hs2:(cF pos (aK [r] X.env)).any (·.1)=false:=by rfl) (hK:X.K=K:=by rfl) :
  PI X (.Tuple es x1 tpos) (.Call (.Name "zip" p) [l,r] [] pos) (G3 K ta):=by
 subst hK
 intro pins s σ H R I h
 refine t7 (y7 I hg hm boot_zip (bZ (thn (ha pos pins s σ H _ I h) λus s1 ⟨vs,H1,I1,r1,q1⟩=>?_) hs hs2))
 obtain ⟨t,t2,a,b,e,⟨xs,hq⟩,⟨ys,hq2⟩,q⟩:=q1
 subst e
 obtain ⟨u,u2,rfl,ru,ru2⟩:=XX r1
 cases ru
 cases ru2
 obtain ⟨its,rv,pl,_⟩:=Zf I1 hq
 obtain ⟨its2,rv2,pl2,_⟩:=Zf I1 hq2
 refine UM pl pl2 λh' z1 z2 z3 z4 z5 kk=>?_
 refine ph z1 ?_
 have I2:Inv X pins σ H1 { s1 with heap:=h',toks:=s1.toks }:=I1.kept kk
 have la:a<s1.heap.objs.size:=pl.lt
 have lb:b<s1.heap.objs.size:=pl2.lt
 have D:mL (s1.heap.objs.size+4) (s1.heap.objs.size+2) (s1.heap.objs.size+3) s1.heap.objs.size (s1.heap.objs.size+1) a b:=by
  constructor <;> first | exact aB la | exact aB lb | exact aB (aN la (dI _ _)) | exact aB (aN lb (dI _ _)) | (apply aB;omega) | (apply d0;omega)
 refine ⟨_,[s1.heap.objs.size+4,s1.heap.objs.size+2,s1.heap.objs.size+3,s1.heap.objs.size,s1.heap.objs.size+1],_,_,H1,rfl,I2,ZI D,⟨.none,.none,z1,z2,z3,z4,z5⟩,λc hc=>?_,q⟩
 have hle:s1.heap.objs.size<=c:=by
  simp only [eE,eS,or_false] at hc
  rcases hc with rfl | rfl | rfl | rfl | rfl
  ·exact dI _ _
  ·exact dI _ _
  ·exact dI _ _
  ·exact ao _
  ·exact dI _ _
 exact I1.fpOk hle (I1.hok.fresh hle)
end
theorem gR {K:ag}{t0 u0:Bool}{a b acc:Addr}{xs ys:List V}{g:TG}{ti:TT}{te:TE}{R:Hp->Prop}{σ:St}{H:Hp}(hl2:xs.length=ys.length) (Pv:Nat->St->Hp->Prop) (h0:Pv 0 σ H) (hl:∀i σ H,i<=xs.length->Pv i σ H->SqK t0 K H a xs/\SqK u0 K H b ys)
  (hs:∀i x y σ H t,xs[i]? = some x->ys[i]? = some y->Pv i σ H->H t=none->g (.ref t) σ (upd H t (.tup [x,y])) λσ3 H3=>ti σ3 H3 λok H4=>if ok=true then te σ3 H4 λv H5=>∃zs,H5 acc=some (.lst zs)/\zs.length<sizeLine/\Pv (i+1) σ3 (upd H5 acc (.lst (zs++[v]))) else Pv (i+1) σ3 H4)
  (hd:∀σ H,Pv xs.length σ H->R H) :
  ∃W:Nat->Nat->St->Hp->Prop,(∃m,W 0 m σ H)/\∀i m σ' H',W i m σ' H' ->
   ((Va K t0 u0 a b).stop i H'/\R H')\/((Va K t0 u0 a b).go i H'/\∃NX:St->Hp->Prop,(∀σ2 H2,NX σ2 H2->∃m',m'<m/\W (i+1) m' σ2 H2) /\
    ∀x H2,(Va K t0 u0 a b).yld i H' x H2->g x σ' H2 λσ3 H3=>ti σ3 H3 λok H4=>if ok=true then te σ3 H4 λv H5=>∃zs,H5 acc=some (.lst zs)/\zs.length<sizeLine/\NX σ3 (upd H5 acc (.lst (zs++[v]))) else NX σ3 H4):=by
 refine ⟨λi m σ H=>m=xs.length-i/\i<=xs.length/\Pv i σ H,⟨xs.length,by simp,aE _,h0⟩,?_⟩
 rintro i m σ H ⟨rfl,hi,p⟩
 obtain ⟨q,q2⟩:=hl i σ H hi p
 by_cases hlt:i<xs.length
 ·refine .inr ⟨⟨xs,ys,xs[i],ys[i]'∅,q,q2,by simp [hlt],ae ∅⟩,Pv (i+1),λσ' H' p'=>⟨xs.length-(i+1),∅,rfl,hlt,p'⟩,λv H' y=>?_⟩
  obtain ⟨t,x,y',rfl,hn,rfl,y1,y2⟩:=y
  exact hs i x y' σ H t (y1 xs q) (y2 ys q2) p hn
 ·have e:i=xs.length:=∅
  subst e
  exact .inl ⟨⟨xs,ys,q,q2,.inl (ao _)⟩,hd σ H p⟩
end L2
end
section
namespace L2
open PySem.W
mutual
inductive Dat (H:Hp):V->d8->Prop
 | non:Dat H .non .none
 | bl (b:Bool):Dat H (.bl b) (.bool b)
 | int (i:Int):Dat H (.int i) (.int i)
 | str (x:Str):Dat H (.str x) (.str x)
 | tup {p:Addr} {vs:List V} {ds:List d8}:H p=some (.tup vs)->DatL H vs ds->Dat H (.ref p) (.tuple ds)
 | lst {p:Addr} {vs:List V} {ds:List d8}:H p=some (.lst vs)->DatL H vs ds->Dat H (.ref p) (.list ds)
inductive DatL (H:Hp):List V->List d8->Prop
 | nil:DatL H [] []
 | cons {v:V} {vs:List V} {d:d8} {ds:List d8}:Dat H v d->DatL H vs ds->DatL H (v::vs) (d::ds)
end
mutual
theorem Dat.ext {M:Addr->Prop}{H H':Hp}(x:Yi M H H') (hM:∀c,M c->∀vs,H c≠some (.lst vs)/\H c≠some (.tup vs)):∀{v:V}{d:d8},Dat H v d->Dat H' v d
 | _,_,.non=>.non
 | _,_,.bl b=>.bl b
 | _,_,.int i=>.int i
 | _,_,.str y=>.str y
 | _,_,.tup h r=>.tup (x _ _ h λz=>(hM _ z _).2 h) (DatL.ext x hM r)
 | _,_,.lst h r=>.lst (x _ _ h λz=>(hM _ z _).1 h) (DatL.ext x hM r)
theorem DatL.ext {M:Addr->Prop}{H H':Hp}(x:Yi M H H') (hM:∀c,M c->∀vs,H c≠some (.lst vs)/\H c≠some (.tup vs)):∀{vs:List V}{ds:List d8},DatL H vs ds->DatL H' vs ds
 | _,_,.nil=>.nil
 | _,_,.cons h r=>.cons (Dat.ext x hM h) (DatL.ext x hM r)
end
theorem Dat.same {H H':Hp}{v:V}{d:d8}(s:jn H H') (h:Dat H v d):Dat H' v d:=h.ext (M:=λ_=>False) (Yi.of_same s) (λ_ z=>z.elim)
mutual
theorem Dat.rep {M:Addr->Prop}(hM:∀p,¬M p) {K:ag}{H:Hp}:∀{v:V}{d:d8},Dat H v d->Rep M K H v d
 | _,_,.non=>.non
 | _,_,.bl b=>.bl b
 | _,_,.int i=>.int i
 | _,_,.str y=>.str y
 | _,_,.tup h r=>.tup (hM _) (SqT.of h) (DatL.rep hM r)
 | _,_,.lst h r=>.lst (hM _) (SqL.of h) (DatL.rep hM r)
theorem DatL.rep {M:Addr->Prop}(hM:∀p,¬M p) {K:ag}{H:Hp}:∀{vs:List V}{ds:List d8},DatL H vs ds->RepL M K H vs ds
 | _,_,.nil=>.nil
 | _,_,.cons h r=>.cons (Dat.rep hM h) (DatL.rep hM r)
end
theorem DatL.length {H:Hp}:∀{vs:List V}{ds:List d8},DatL H vs ds->vs.length=ds.length
 | _,_,.nil=>rfl
 | _,_,.cons _ r=>congrArg Nat.succ r.length
theorem DatL.get {H:Hp}:∀{vs:List V}{ds:List d8}{i:Nat}{v:V},DatL H vs ds->vs[i]? = some v->∃d,ds[i]? = some d/\Dat H v d
 | _,_,_,_,.nil,e=>by simp at e
 | _,_,0,_,.cons r _,e=>by simp at e;subst e;exact ⟨_,rfl,r⟩
 | _,_,i+1,v,.cons _ t,e=>by
  obtain ⟨d,h1,h2⟩:=DatL.get (i:=i) (v:=v) t (by simpa using e)
  exact ⟨d,by simpa using h1,h2⟩
noncomputable def yF:Nat->d8->Bool
 | 0,_=>false
 | _+1,.none=>true
 | _+1,.bool _=>true
 | _+1,.int _=>true
 | _+1,.str _=>true
 | n+1,.list ds=>decide (ds.length<=1000) && ds.all (yF n)
 | n+1,.tuple ds=>decide (ds.length<=1000) && ds.all (yF n)
 | _+1,_=>false
noncomputable def Um (n:Nat):Sp:=λvs H Q _=>∃(x y:V) (d:d8),vs=[x,y]/\Dat H x d/\Dat H y d/\yF n d=true/\∀H',jn H H'->Q (.bl true) H'
theorem Qm (K:ag):bq K (.type "str") (.type "bool")=some false:=(qf K _ _).trans (by decide +kernel)
theorem XA (K:ag):bq K (.type "str") (.type "int")=some false:=(qf K _ _).trans (by decide +kernel)
theorem wj (K:ag):bq K (.type "str") (.type "str")=some true:=(qf K _ _).trans (by decide +kernel)
end L2
end
section
namespace L2
open PySem.W
noncomputable def Two (vs:Array af) (a0:af):Prop:=vs[0]? = some a0/\vs[2]? = some .none
theorem Two.put {vs:Array af}{a0:af}(t:Two vs a0) (x:af):Two (vs.setIfInBounds 1 x) a0 :=
 ⟨by rw [fQ ⋯];exact t.1,by rw [fQ ⋯];exact t.2⟩
theorem YT (o:Obj) (f:Array af->Array af):(o.mapFields f).dict=o.dict:=by
 obtain ⟨c,d,dt,sl⟩:=o
 cases dt <;> rfl
noncomputable def OnT (h B:Heap) (e:Addr) (cls a0 fl:af):Prop :=
 ∃oe vs T oT ts,h.get? e=some oe/\(oe.cls=cls/\Two vs a0/\oe.dict=none)/\oe.data = .fields vs/\vs[1]? = some (.ref T)/\B.get? T=none/\T≠e/\h.get? T=some oT/\oT.data = .fields ts/\ts[3]? = some fl
section
variable {M:t6}{A:bb}{E:af->Shared->Prop}{s:Shared}{B:Heap}{env:Env}{outer l:List Env}{L e:Addr}{cls a0 fl:af}{Q:Unit->Shared->Prop}
theorem kC (st:B.StaysIn s.heap) (fu:s.heap.FunFrames B l) (on:OnT s.heap B e cls a0 fl)
  (k:∀g,B.StaysIn g->g.FunFrames B l->OnT g B e cls a0 .none->(∀b o,s.heap.get? b=some o->(∀vs,o.data≠.fields vs)->g.get? b=some o)->Q () { s with heap:=g }):au M A (setFlight (.ref e) none) Q E s:=by
 obtain ⟨oe,vs,T,oT,ts,ge,gc,gd,g1,gB,gn,gT,gD,g3⟩:=on
 have z3:3<ts.size:=(Array.getElem?_eq_some_iff.mp g3).1
 have ot:∀b,b≠T->(s.heap.update T (cv (·.setIfInBounds 3 ((none:Option Addr).elim aS λf=>bJ f)))).get? b=s.heap.get? b:=λb hb =>
  cC _ _ hb.symm
 have nr:∀{b o},s.heap.get? b=some o->(∀vs,o.data≠.fields vs)->b≠T:=λhb hn q=>by
  rw [q,gT] at hb
  cases hb
  exact hn ts gD
 unfold setFlight
 refine aa (bC ge gd g1 ?_)
 rw [if_pos (by simp)]
 refine dH gT gD z3 (k _ (λb o hb=>?_) (fu.of_keeps λb o hb hn=>⟨o,?_,rfl⟩) ?_ λb o hb hn=>?_)
 ·rw [ot b λq=>by rw [q,gB] at hb;cases hb]
  exact st b o hb
 ·rw [ot b (nr hb hn)]
  exact hb
 ·refine ⟨oe,vs,T,_,_,?_,gc,gd,g1,gB,gn,dr _ gT (eG (dS gD _)),dS gD _,by simp [z3]⟩
  rw [ot e gn.symm]
  exact ge
 ·rw [ot b (nr hb hn)]
  exact hb
theorem JM {oe:Obj}{vs:Array af}{head:af}{nx:Bool}(fr:A.frames=some (env::outer)) (fu:s.heap.FunFrames B (env::outer)) (hL:env.frame=some L) (ge:s.heap.get? e=some oe) (st:B.StaysIn s.heap) (ne:B.get? e=none) (gd:oe.data = .fields vs)
  (z1:1<vs.size) (tw:Two vs a0) (dn:oe.dict=none) (k:∀g,B.StaysIn g->g.FunFrames B (env::outer)->OnT g B e oe.cls a0 (bJ L)->s.heap.UpToSlots g->Q () { s with heap:=g }) :
  au M A (do let a <- frameOf env;let pl <- entryPlaceOf L nx;let b <- mY head a .none (bJ L) .none pl;sX (.ref e) 1 b) Q E s:=by
 have out:e∉(env::outer).filterMap (·.frame):=λq=>by
  obtain ⟨_,o,ho,hn⟩:=fu.mem q
  rw [ge] at ho
  cases ho
  exact hn vs gd
 refine aa (wpAny_frameOf_fun fr fu hL λg1 so=>?_)
 refine aa (wpAny_entryPlaceOf λpl sh=>?_)
 unfold mY newFields
 refine aa (bx ?_ (sh.sizeOk5 _ _ _ _ _))
 have e1:g1.get? e=some oe:=(so.2.1 e out).trans ge
 have s1:B.StaysIn g1:=λb o hb=>(so.2.1 b λq=>by rw [(fu.mem q).1] at hb;cases hb).trans (st b o hb)
 generalize hnew:({ cls:=.type "traceback",dict:=none,data:=.fields ([head,.ref L,.none,bJ L,.none]++(if pl.isEmpty then dh 6 aS else pl)).toArray }:Obj)=new
 have nd:new.data = .fields ([head,.ref L,.none,bJ L,.none]++(if pl.isEmpty then dh 6 aS else pl)).toArray:=by rw [<- hnew]
 have e2:=ai (h:=g1) new e1
 refine dH e2 gd z1 ?_
 have Te:g1.objs.size≠e:=d0 (ay e1)
 have d3:=dS gd (·.setIfInBounds 1 (aQ g1.objs.size))
 have e3:=dr (cv (·.setIfInBounds 1 (aQ g1.objs.size))) e2 (eG d3)
 have T3:((g1.push new).update e (cv (·.setIfInBounds 1 (aQ g1.objs.size)))).get? g1.objs.size=some new:=by
  rw [cC _ _ Te.symm]
  exact az g1 (eG nd)
 have kp:∀{b o},b≠e->g1.get? b=some o->((g1.push new).update e (cv (·.setIfInBounds 1 (aQ g1.objs.size)))).get? b=some o:=λhb q=>by
  rw [cC _ _ hb.symm]
  exact ai _ q
 have nr:∀{b o},s.heap.get? b=some o->(∀vs,o.data≠.fields vs)->b≠e:=λhb hn q=>by
  rw [q,ge] at hb
  cases hb
  exact hn vs gd
 refine k _ (λb o hb=>kp (λq=>by rw [q,ne] at hb;cases hb) (s1 b o hb)) (fu.of_keeps λb o hb hn=>?_) ?_ λb o hb hn=>?_
 ·obtain ⟨sl,hs⟩:=so.2.2 b o hb
  exact ⟨_,kp (nr hb hn) hs,rfl⟩
 ·exact ⟨_,_,g1.objs.size,_,_,e3,⟨oE _ _,tw.put _,(YT _ _).trans dn⟩,d3,by simp [z1],s1.fresh,Te,T3,nd,by first | (simp;done) | (rcases sh with rfl | ⟨_,_,_,_,_,_,_,rfl⟩ <;> simp)⟩
 ·obtain ⟨sl,hs⟩:=so.2.2 b o hb
  exact ⟨sl,kp (nr hb hn) hs⟩
theorem VD (fr:A.frames=some (env::outer)) (fu:s.heap.FunFrames B (env::outer)) (hL:env.frame=some L) (on:OnT s.heap B e cls a0 .none) (st:B.StaysIn s.heap) (ne:B.get? e=none)
  (k:∀g,B.StaysIn g->g.FunFrames B (env::outer)->OnT g B e cls a0 (bJ L)->s.heap.UpToSlots g->Q () { s with heap:=g }):au M A (iJ (.ref e) env) Q E s:=by
 obtain ⟨oe,vs,T,oT,ts,ge,⟨rfl,tw,dn⟩,gd,g1,gB,gn,gT,gD,g3⟩:=on
 unfold iJ
 simp only [hL]
 refine aa (bC ge gd g1 ?_)
 rw [if_pos (by simp)]
 refine aa (bC gT gD g3 ?_)
 rw [if_neg (by simp [bJ])]
 refine aa (dH gT gD (Array.getElem?_eq_some_iff.mp g3).1 ?_)
 have ot:∀b,b≠T->(s.heap.update T (cv (·.setIfInBounds 3 aS))).get? b=s.heap.get? b:=λb hb =>
  cC _ _ hb.symm
 have nr:∀{b o},s.heap.get? b=some o->(∀vs,o.data≠.fields vs)->b≠T:=λhb hn q=>by
  rw [q,gT] at hb
  cases hb
  exact hn ts gD
 refine JM (oe:=oe) (vs:=vs) (a0:=a0) fr (fu.of_keeps λb o hb hn=>⟨o,?_,rfl⟩) hL ?_ (λb o hb=>?_) ne gd (Array.getElem?_eq_some_iff.mp g1).1 tw dn λg k1 k2 k3 k4=>k g k1 k2 k3 λb o hb hn=>?_
 ·exact (ot b (nr hb hn)).trans hb
 ·exact (ot e gn.symm).trans ge
 ·exact (ot b λq=>by rw [q,gB] at hb;cases hb).trans (st b o hb)
 ·exact k4 b o ((ot b (nr hb hn)).trans hb) hn
theorem V9 (fr:A.frames=some (env::outer)) (fu:s.heap.FunFrames B (env::outer)) (hL:env.frame=some L) (on:OnT s.heap B e cls a0 .none) (st:B.StaysIn s.heap) (ne:B.get? e=none)
  (k:∀g,B.StaysIn g->g.FunFrames B (env::outer)->OnT g B e cls a0 .none->s.heap.UpToSlots g->Q () { s with heap:=g }):au M A (mS env (.ref e)) Q E s:=by
 unfold mS
 refine aa (VD fr fu hL on st ne λg k1 k2 k3 k4=>?_)
 exact kC (s:={ s with heap:=g }) k1 k2 k3 λg' m1 m2 m3 m4=>k g' m1 m2 m3 (k4.trans λb o hb hn=>⟨o.slots,m4 b o hb hn⟩)
theorem Xc {h:Heap}{args:List af}(fr:A.frames=some (env::outer)) (hL:env.frame=some L) (st:B.StaysIn h) (fu:h.FunFrames B (env::outer)) (hx:mM h s.heap e cls args)
  (k:∀g t,B.StaysIn g->g.FunFrames B (env::outer)->OnT g B e cls (.ref t) .none->B.get? e=none->s.heap.UpToSlots g->Q () { s with heap:=g }):au M A (mS env (.ref e)) Q E s:=by
 obtain ⟨t,ge,tn,gt⟩:=hx.there
 have new:B.get? e=none:=by
  cases q:B.get? e with
  | none=>rfl
  | some o =>
   have:=st e o q
   rw [hx.new] at this
   cases this
 unfold mS iJ
 simp only [hL]
 refine aa (aa (bC (x:=.none) ge rfl rfl ?_))
 rw [if_neg ⋯]
 refine JM (a0:=.ref t) fr (fu.of_keeps λb o hb _=>⟨o,hx.keeps b o hb,rfl⟩) hL ge (λb o hb=>hx.keeps b o (st b o hb)) new rfl (by simp) ⟨rfl,rfl⟩ rfl λg k1 k2 k3 k4=>?_
 exact kC (s:={ s with heap:=g }) k1 k2 k3 λg' m1 m2 m3 m4=>k g' t m1 m2 m3 new (k4.trans λb o hb hn=>⟨o.slots,m4 b o hb hn⟩)
end
end L2
end
section
namespace L2
open PySem.W
structure Fly (g:Heap) (H:Hp) (h:Heap) (a:Addr) (cls fl:af):Prop where
 na:g.get? a=none
 ha:H a=none
 ob:∃oe vs T oT ts a0,h.get? a=some oe/\(oe.cls=cls/\Two vs a0/\oe.dict=none)/\oe.data = .fields vs/\vs[1]? = some (.ref T)/\g.get? T=none/\H T=none/\T≠a/\h.get? T=some oT/\oT.data = .fields ts/\ts[3]? = some fl
theorem Fly.mono {g g':Heap}{H:Hp}{h:Heap}{a:Addr}{cls fl:af}(f:Fly g H h a cls fl) (l:∀b o,g'.get? b=some o->∃o',g.get? b=some o'):Fly g' H h a cls fl:=by
 have no:∀{b},g.get? b=none->g'.get? b=none:=λ{b} e=>by
  cases q:g'.get? b with
  | none=>rfl
  | some o =>
   obtain ⟨o',e'⟩:=l b o q
   rw [e] at e'
   cases e'
 obtain ⟨oe,vs,T,oT,ts,a0,h1,h2,h3,h4,h5,h6⟩:=f.ob
 exact ⟨no f.na,f.ha,oe,vs,T,oT,ts,a0,h1,h2,h3,h4,no h5,h6⟩
noncomputable def CX1 (P:Program) (w:aU):CXT:=λouter H s E e s' =>
 ∃a cls H',e = .ref a/\s'.os=s.os/\i5 s'.gens/\Un (frs outer) [] H H' s.heap s'.heap/\HOk P w H' s'.heap/\Fly s.heap H' s'.heap a cls .none/\E cls none H'
noncomputable def zS (X:Cx) (pins:List (Addr×Obj)) (σ:St) (H':Hp) (s1:Shared) (a:Addr) (cls fl:af):Prop :=
 ∃s H,Inv X pins σ H s/\s1.os=s.os/\i5 s1.gens/\Un (frs X.stack) [] H H' s.heap s1.heap/\HOk X.prog X.w H' s1.heap/\Fly s.heap H' s1.heap a cls fl
theorem wX {P:Program}{w:aU}{H:Hp}{h:Heap}{a:Addr}{o:HO}(x:jW P w H h a o):∃ob,h.get? a=some ob:=by
 cases o with
 | lst xs=>obtain ⟨_,_,_,_,e⟩:=x;exact ⟨_,e⟩
 | tup xs=>obtain ⟨_,_,_,ob,e,_⟩:=x;exact ⟨_,e⟩
 | dK kvs=>obtain ⟨_,_,_,_,ob,_,_,e,_⟩:=x;exact ⟨_,e⟩
 | dT kvs=>obtain ⟨_,_,_,_,ob,_,_,e,_⟩:=x;exact ⟨_,e⟩
 | set S n=>obtain ⟨ob,_,_,_,e,_⟩:=x;exact ⟨_,e⟩
 | ins C dx fs=>obtain ⟨_,_,_,e,_⟩:=x;exact ⟨_,e⟩
 | own y=>exact x
 | xd fs=>obtain ⟨_,⟨_,_,_,e,_⟩,_⟩:=x;exact ⟨_,e⟩
 | rng lo hi=>obtain ⟨_,_,_,e⟩:=x;exact ⟨_,e⟩
 | frz ob u=>obtain ⟨e,_⟩:=x;exact ⟨_,e⟩
 | tbl ps=>exact ⟨_,(show h.get? a=some _ from x)⟩
 | met f y=>exact ⟨_,(show h.get? a=some _ from x)⟩
 | ext φ=>obtain ⟨_,e,_⟩:=x;exact e
section
variable {X:Cx}{pins:List (Addr×Obj)}{σ:St}{H H':Hp}{s s1:Shared}{a:Addr}{cls fl:af}
theorem zS.inv (f:zS X pins σ H' s1 a cls fl):Inv X pins σ H' s1:=by
 obtain ⟨s,H,I,os,b,u,ok,fy⟩:=f
 exact I.call' os u ok b (λb z=>absurd z (by simp))
theorem zS.fly (hex:X.ex=[]) (f:zS X pins σ H' s1 a cls fl):Fly X.s₀.heap H' s1.heap a cls fl:=by
 obtain ⟨s,H,I,os,b,u,ok,fy⟩:=f
 exact fy.mono λc o e=>I.base.there c o e (by rw [hex];exact λz=>by cases z)
theorem zS.under (f:zS X pins σ H' s1 a cls .none):∃B a0,(B.StaysIn s1.heap/\B.get? a=none/\s1.heap.FunFrames B X.stack/\OnT s1.heap B a cls a0 .none) /\
  ∀h2 fl2,B.StaysIn h2->s1.heap.UpToSlots h2->OnT h2 B a cls a0 fl2->zS X pins σ H' { s1 with heap:=h2 } a cls fl2:=by
 have I1:=f.inv
 obtain ⟨s,H,I,os,b,u,ok,fy⟩:=f
 obtain ⟨oe,vs,T,oT,ts,a0,h1,h2,h3,h4,h5,h6,h7,h8,h9,h10⟩:=fy.ob
 have fr:=I1.stack
 have fs:∀b∈frs X.stack,b≠a/\b≠T:=λb hb=>by
  obtain ⟨_,o,ho,hn⟩:=fr.mem hb
  refine ⟨λz=>?_,λz=>?_⟩
  ·rw [z,h1] at ho;cases ho;exact hn _ h3
  ·rw [z,h8] at ho;cases ho;exact hn _ h9
 have in_:∀env∈X.stack,∀c,env.frame=some c->c∈a::T::frs X.stack:=λenv he c hc=>aD _ (aD _ (List.mem_filterMap.mpr ⟨env,he,hc⟩))
 have noB:∀{c o},s1.heap.get? c=some o->c≠a->c≠T->c∉frs X.stack->(hideAll s1.heap (a::T::frs X.stack)).get? c=some o:=λe n1 n2 n3 =>
  hideAll_get _ e (by simp only [eE,not_or];exact ⟨n1,n2,n3⟩)
 refine ⟨hideAll s1.heap (a::T::frs X.stack),a0,⟨λb o q=>of_hideAll _ q,hideAll_none _ (.head _),rT fr in_,oe,vs,T,oT,ts,h1,h2,h3,h4,hideAll_none _ (.tail _ (.head _)),h7,h8,h9,h10⟩,λhp fl2 st up tr=>?_⟩
 have lo:∀{c o},s.heap.get? c=some o->c≠a/\c≠T:=λ{c o} e=>⟨λz=>(by rw [z,fy.na] at e;cases e),λz=>(by rw [z,h5] at e;cases e)⟩
 have frn:∀{c o},s1.heap.get? c=some o->c∈frs X.stack->∀vs,o.data≠.fields vs:=λe hc=>by
  obtain ⟨_,o',ho,hn⟩:=fr.mem hc
  rw [e] at ho;cases ho;exact hn
 refine ⟨s,H,I,os,b,⟨λc o e n nf nx=>?_,λc o e n hf nx=>?_,λc o e n nx=>u.free c o e n nx,λc o e nx=>?_,u.tups,u.frzs,u.tbls⟩,λc o hc=>?_,?_⟩
 ·exact st _ _ (noB (u.keep c o e n nf nx) (lo e).1 (lo e).2 nf)
 ·obtain ⟨sl,e1⟩:=u.slot c o e n hf nx
  obtain ⟨sl2,e2⟩:=up c _ e1 (frn e1 hf)
  exact ⟨sl2,e2⟩
 ·obtain ⟨o1,e1⟩:=u.there c o e nx
  by_cases hf:c∈frs X.stack
  ·obtain ⟨sl2,e2⟩:=up c _ e1 (frn e1 hf)
   exact ⟨_,e2⟩
  ·exact ⟨o1,st _ _ (noB e1 (lo e).1 (lo e).2 hf)⟩
 ·refine (ok c o hc).stay (λc' o' hc' e=>?_) (λ_ e=>e) λ_ _ e=>e
  have hne:H' c'≠none:=by
   rcases hc' with z | z
   ·rw [z,hc];exact λy=>by cases y
   ·rw [z];exact λy=>by cases y
  exact st _ _ (noB e (λz=>hne (by rw [z];exact fy.ha)) (λz=>hne (by rw [z];exact h6)) λz=>hne (I1.stkFree _ z))
 ·obtain ⟨oe2,vs2,T2,oT2,ts2,g1,g2,g3,g4,g5,g6,g7,g8,g9⟩:=tr
  have key:T2=T\/s1.heap.get? T2=none:=by
   cases q:s1.heap.get? T2 with
   | none=>exact .inr rfl
   | some o =>
    refine .inl ?_
    by_cases hT:T2=T
    ·exact hT
    ·by_cases hf:T2∈frs X.stack
     ·obtain ⟨sl2,e2⟩:=up T2 _ q (frn q hf)
      rw [e2] at g7
      cases g7
      exact absurd g8 (frn q hf _)
     ·have:=noB q g6 hT hf
      rw [g5] at this
      cases this
  refine ⟨fy.na,fy.ha,oe2,vs2,T2,oT2,ts2,a0,g1,g2,g3,g4,?_,?_,g6,g7,g8,g9⟩
  ·rcases key with z | z
   ·rw [z];exact h5
   ·cases q:s.heap.get? T2 with
    | none=>rfl
    | some o =>
     obtain ⟨o',e'⟩:=u.there T2 o q (by simp)
     rw [z] at e'
     cases e'
  ·rcases key with z | z
   ·rw [z];exact h6
   ·cases q:H' T2 with
    | none=>rfl
    | some o =>
     obtain ⟨o',e'⟩:=wX (ok T2 o q)
     rw [z] at e'
     cases e'
theorem zS.leave {Q:Unit->Shared->Prop}{E:af->Shared->Prop}(f:zS X pins σ H' s1 a cls .none) (st:X.stack=X.env::X.outer) (hf:X.env.frame=some X.env.locals)
  (k:∀h2,zS X pins σ H' { s1 with heap:=h2 } a cls .none->Q () { s1 with heap:=h2 }):au (aC X.prog X.w) X.A (mS X.env (.ref a)) Q E s1:=by
 obtain ⟨B,a0,fw,up⟩:=f.under
 have fr:X.A.frames=some (X.env::X.outer):=by rw [<- st];exact f.inv.ok.frames
 rw [st] at fw
 obtain ⟨f1,f2,f3,f4⟩:=fw
 exact V9 fr f3 hf f4 f1 f2 λh2 k1 k2 k3 k4=>k h2 (up h2 .none k1 k4 k3)
theorem QU {vs:List af}{h1:Heap}{Q:Unit->Shared->Prop}{E:af->Shared->Prop}(I:Inv X pins σ H s) (hx:mM s.heap h1 a cls vs) (st:X.stack=X.env::X.outer) (hf:X.env.frame=some X.env.locals)
  (k:∀h2,zS X pins σ H { s with heap:=h2 } a cls .none->Q () { s with heap:=h2 }):au (aC X.prog X.w) X.A (mS X.env (.ref a)) Q E { s with heap:=h1 }:=by
 have fr:X.A.frames=some (X.env::X.outer):=by rw [<- st];exact I.ok.frames
 have fun0:=I.stack
 have in_:∀env∈X.stack,∀c,env.frame=some c->c∈frs X.stack:=λenv he c hc=>List.mem_filterMap.mpr ⟨env,he,hc⟩
 have fun1:=rT fun0 in_
 have frn:∀{c o},s.heap.get? c=some o->c∈frs X.stack->∀vs,o.data≠.fields vs:=λe hc=>by
  obtain ⟨_,o',ho,hn⟩:=fun0.mem hc
  rw [e] at ho;cases ho;exact hn
 rw [st] at fun1
 refine Xc (s:={ s with heap:=h1 }) (B:=hideAll s.heap (frs (X.env::X.outer))) (h:=s.heap) fr hf (λb o q=>of_hideAll _ q) fun1 hx λh2 t b1 b2 fw b3 up=>?_
 rw [<- st] at fw b1
 obtain ⟨oe,ws,T,oT,ts,g1,g2,g3,g4,g5,g6,g7,g8,g9⟩:=fw
 have keepB:∀{c o},s.heap.get? c=some o->c∉frs X.stack->h2.get? c=some o:=λe n=>b1 _ _ (hideAll_get _ e n)
 have slotB:∀{c o},s.heap.get? c=some o->c∈frs X.stack->∃sl,h2.get? c=some { o with slots:=sl }:=λ{c o} e hc=>up c o (hx.keeps _ _ e) (frn e hc)
 have nT:s.heap.get? T=none:=by
  cases q:s.heap.get? T with
  | none=>rfl
  | some o =>
   exfalso
   by_cases hc:T∈frs X.stack
   ·obtain ⟨sl,e⟩:=slotB q hc
    rw [e] at g7
    cases g7
    exact frn q hc _ g8
   ·rw [hideAll_get _ q hc] at g5
    cases g5
 have hn:∀{c},s.heap.get? c=none->H c=none:=λ{c} e=>by
  cases q:H c with
  | none=>rfl
  | some o =>
   obtain ⟨o',e'⟩:=wX (I.hok c o q)
   rw [e] at e'
   cases e'
 refine k h2 ⟨s,H,I,rfl,I.bare,⟨λc o e n nf nx=>keepB e nf,λc o e n hf nx=>slotB e hf,λc o e n nx=>n,λc o e nx=>?_,λ_ _ e=>e,λ_ _ _ e=>e,λc ps e=>⟨#[],by rw [e];simp⟩⟩,λc o hc=>?_,hx.new,hn hx.new,oe,ws,T,oT,ts,.ref t,g1,g2,g3,g4,nT,hn nT,g6,g7,g8,g9⟩
 ·by_cases hc:c∈frs X.stack
  ·obtain ⟨sl,e2⟩:=slotB e hc
   exact ⟨_,e2⟩
  ·exact ⟨o,keepB e hc⟩
 ·refine (I.hok c o hc).stay (λc' o' hc' e=>?_) (λ_ e=>e) λ_ _ e=>e
  refine keepB e λz=>?_
  have:=I.stkFree _ z
  rcases hc' with y | y
  ·rw [y,hc] at this;cases this
  ·rw [y] at this;cases this
end
noncomputable def Acc (X:Cx) (J:af->St->Hp->Prop):Prop:=∀(pins:List (Addr×Obj)) (σ:St) (H':Hp) (s1:Shared) (a:Addr) (cls:af),zS X pins σ H' s1 a cls .none->J cls σ H'->X.xe (.ref a) s1
noncomputable def Wc (sp:Sp) (J:af->St->Hp->Prop) (t:TA):TE:=λσ H Q=>t σ H λvs H1=>sp vs H1 Q λcls _ H'=>J cls σ H'
structure CalX (P:Program) (w:aU) (K:ag) (mg:Str->Option af) (base:Heap) (k:Nat) (x:Str) (ps:List Str) (sp:Sp):Prop where
 ex:∃f fd,FnOk P w K mg base (CX1 P w) k f fd ps sp/\yk K fd ps []/\mg x=some (.ref f)/\bR K (.ref f)=true
theorem xW {X:Cx}{k:Nat}{x:Str}{ps:List Str}{sp:Sp}{e:Expr}{es:List Expr}{t:TA}{p pos:Pos}{J:af->St->Hp->Prop}(c:CalX X.prog X.w X.K X.mg X.base k x ps sp) (hr:Room k X.A) (ac:Acc X J) (hg:Gl X x) (ha:PA X (e::es) t)
  (hdb:(x == ("__debug__" : Str))=false:=by decide) (he:aK (e::es) X.env=(false,eval e X.env)::aK es X.env:=by rfl) (hpl:(cF pos (aK es X.env)).any (·.1)=false:=by rfl) :
  PE X (.Call (.Name x p) (e::es) [] pos) (Wc sp J t):=by
 obtain ⟨f,fd,F,hb,hm,hk⟩:=c.ex
 intro pins s σ H Q I h
 refine dg (vU I hg hm ?_ hdb)
 refine dQ (h₀:=X.base) I.ok.mod.kin hk (thn (ha pos pins s σ H _ I h) λus s1 ⟨vs,H1,I1,r,q⟩=>⟨I1.kIn,?_⟩) he hpl
 have hl:us.length=ps.length:=by rw [<- r.length];exact F.len _ _ _ _ q
 have hb':=hb s1 us I1.kIn (by rw [bp];exact hl)
 rw [bp] at hb'
 refine lR (dz (F.run X.A X.stack s1 H1 ⟨us,[]⟩ us vs Q _ hr I1.env0 hb' r q) λr s' hq=>?_)
 cases r with
 | error e =>
  obtain ⟨a,cls,H',rfl,os,b,u,ok,fy,j⟩:=hq
  exact ac pins σ H' s' a cls ⟨s1,H1,I1,os,b,u,ok,fy⟩ j
 | ok fl =>
  cases fl with
  | ret u=>exact I1.after hq
  | next=>exact bA hq
  | brk=>exact bA hq
  | cont=>exact bA hq
theorem CalX.cal {P:Program}{w:aU}{K:ag}{mg:Str->Option af}{base:Heap}{k:Nat}{x:Str}{ps:List Str}{sp:Sp}(c:CalX P w K mg base k x ps sp):Cal P w K mg base k x ps (λvs H Q _=>sp vs H Q E0):=by
 obtain ⟨f,fd,F,hb,hm,hk⟩:=c.ex
 refine ⟨f,fd,⟨λvs H Q E h=>F.len vs H Q E0 h,λA outer s H args us vs Q E hr he hb hv hs=>dz (F.run A outer s H args us vs Q E0 hr he hb hv hs) λr s' q=>?_⟩,hb,hm,hk⟩
 cases r with
 | error e =>
  obtain ⟨a,cls,H',_,_,_,_,_,_,j⟩:=q
  exact bA j
 | ok fl =>
  cases fl with
  | ret u=>exact q
  | next=>exact q
  | brk=>exact q
  | cont=>exact q
theorem qE {P:Program}{w:aU}{K:ag}{mg:Str->Option af}{base:Heap}{N:List Str}{qual:Str}{scope:Scope}{f:Addr}{cd:af}{A:bb}{outer:List Env}{s:Shared}{H:Hp}{E:XK} :
  Acc (vd (CX1 P w) P w K mg base N qual scope f cd A outer s H E) λcls _ H'=>E cls none H':=by
 intro pins σ H' s1 a cls fl j
 refine zS.leave (X:=vd (CX1 P w) P w K mg base N qual scope f cd A outer s H E) fl rfl rfl λh2 f2=>?_
 exact ⟨a,cls,H',rfl,f2.inv.os,f2.inv.bare,f2.inv.base,f2.inv.hok,f2.fly rfl,j⟩
noncomputable def GC (X:Cx) (J:af->St->Hp->Prop):Prop:=∀(pins:List (Addr×Obj)) (σ:St) (H:Hp) (s:Shared) (h1:Heap) (a:Addr) (cls:af) (vs:List af),Inv X pins σ H s->mM s.heap h1 a cls vs->J cls σ H->X.xe (.ref a) { s with heap:=h1 }
theorem xJ {P:Program}{w:aU}{K:ag}{mg:Str->Option af}{base:Heap}{N:List Str}{qual:Str}{scope:Scope}{f:Addr}{cd:af}{A:bb}{outer:List Env}{s:Shared}{H:Hp}{E:XK} :
  GC (vd (CX1 P w) P w K mg base N qual scope f cd A outer s H E) λcls _ H'=>E cls none H':=by
 intro pins σ H' s1 h1 a cls vs I hx j
 refine QU (X:=vd (CX1 P w) P w K mg base N qual scope f cd A outer s H E) I hx rfl rfl λh2 f2=>?_
 exact ⟨a,cls,H',rfl,f2.inv.os,f2.inv.bare,f2.inv.base,f2.inv.hok,f2.fly rfl,j⟩
theorem Wu {K:ag}{h:Heap}{C:Addr}{bmB:List af}{newId:String}(X:K.In h) (q:excIn K C bmB newId=true) :
  ∃bm N nm q bs hdct sn sub ab col dd k0 k1 k2 k3 k5 mN,h.get? C=some (excClassObj nm q C N bs bm hdct sn sub ab col dd k0 k1 k2 k3 k5 newId)/\h.Ns N mN/\mN "__init__" = none/\OwnTail h bmB bm:=by
 unfold excIn at q
 split at q
 ·rename_i dd cd sl ho
  split at q
  ·rename_i C' bm k0 k1 k2 k3 n k5 em es
   simp only [aY,beq_iff_eq,Bool.not_eq_true'] at q
   obtain ⟨⟨⟨⟨⟨rfl,rfl⟩,e1⟩,e2⟩,e3⟩,e4⟩:=q
   obtain ⟨nm,bs,mro,ns,qn,hd,sn,sub,ab,col,del⟩:=cd
   dsimp only at em e1 e3 e4
   subst em e1
   have e5:sl = #[k0,k1,k2,k3,some (.builtin n),k5]:=by obtain ⟨l⟩:=sl;simp only at es;rw [es]
   subst e5
   exact ⟨bm,ns,nm,qn,bs,hd,sn,sub,ab,col,dd,k0,k1,k2,k3,k5,_,X _ _ ho,.of_isNs (isNs_of_in X e3),nsMap_none_of_in X e3 e4,tail_of_in X e2⟩
  ·cases q
 ·cases q
theorem xh {X:Cx}{x:Str}{np cpos pos:Pos}{e:Expr}{es:List Expr}{t:TA}{C:Addr}{B newId initId:String}{bmB:List af}{J:af->St->Hp->Prop}(FB:ExcBaseFacts B newId initId bmB) (O:excIn X.K C bmB newId=true) (hm:X.mg x=some (.ref C)) (hc:X.calm=true) (am:GC X J)
  (hg:Gl X x) (ha:PA X (e::es) t) (hdb:(x == ("__debug__" : Str))=false:=by decide) (he:aK (e::es) X.env=(false,eval e X.env)::aK es X.env:=by rfl) (hpl:(cF cpos (aK es X.env)).any (·.1)=false:=by rfl) :
  PS X (.Raise (some (.Call (.Name x np) (e::es) [] cpos)) none pos) (λD σ H=>t σ H λvs H1=>vs.length<=sizeLine/\J (.ref C) σ H1):=by
 intro pins s σ H D I h
 obtain ⟨bm,N,nm,q,bs,hdct,sn,sub,ab,col,dd,k0,k1,k2,k3,k5,mN,hC,hN,hni,T⟩:=Wu I.ok.mod.kin O
 have h':=ha cpos pins s σ H _ I h
 rw [he] at h'
 refine wpAny_Raise_call_subT (C:=C) (nm:=nm) (q:=q) (N:=N) (bs:=bs) (bm:=bm) (hdct:=hdct) (sn:=sn) (sub:=sub) (ab:=ab) (col:=col) (dd:=dd) (k0:=k0) (k1:=k1) (k2:=k2) (k3:=k3) (k5:=k5)
  FB (mN:=mN) (T.hasType FB.hasBase) (I.ok.hd hc) (by rw [he];show (false || (cF cpos (aK es X.env)).any (·.1))=false;rw [hpl];rfl) hni (vU I hg hm ⟨rfl,?_⟩ hdb)
 rw [he]
 refine ib (thn h' λus s2 ⟨vs,H2,I2,r,hl,j⟩=>⟨rfl,by rw [<- r.length];exact hl,I2.bk _ _ hC,hN.keeps I2.bk,T.keeps I2.bk,λh1 a hx=>am pins σ H2 s2 h1 a (.ref C) _ I2 hx j⟩)
theorem Fun.okX {P:Program}{w:aU}{K:ag}{mg:Str->Option af}{base:Heap}{x qual:Str}{st:Stmt}{f:Addr}{fd:FuncData}{N ps:List Str}{k:Nat}{sp:Sp}(F:Fun K x qual st f fd) (S:FnScope N ps (j8 st)) (len:∀vs H Q E,sp vs H Q E->vs.length=ps.length)
  (hbody:∀(cdv:af) (A:bb) (outer:List Env) (s:Shared) (H:Hp) (vs:List V) (Q:VK) (E:XK),Room k (A.deeper (lr qual (j8 st) s.heap.objs.size f cdv))->sp vs H Q E ->
   ∃t,PSs (vd (CX1 P w) P w K mg base N qual (j8 st) f cdv A outer s H E) (jM st) t/\t { nx:=λ_ H'=>Q .non H',rt:=Q } (start N vs) H):FnOk P w K mg base (CX1 P w) (k+1) f fd ps sp:=by
 obtain ⟨oc,od,kV,doc,pm,an,cdv,ct,osl,rfl,lk,hcd⟩:=F.ex
 exact Vf lk hcd S len λA outer s H vs Q E hr hsp=>hbody cdv A outer s H vs Q E hr hsp
theorem CalX.mk' {P:Program}{w:aU}{K:ag}{mg:Str->Option af}{base:Heap}{k:Nat}{x:Str}{ps:List Str}{sp:Sp}{st:Stmt}{h:Heap}{f:Addr}{oc:af}{od an:Option Addr}{osl:Array (Option af)}{kV doc pm cdv ct:af}
  (X:K.In h) (G:h.Ns mainGlobals mg) (a:aR K mainGlobals x=some (some (.ref f)))
  (l:K.lookup f=some ⟨oc,od,.func (bB x x (qa st) (jM st) (j8 st) .none kV doc pm an cdv ct),osl⟩) (c:cB K cdv x=true) (k':bR K (.ref f)=true)
  (hb:∀(kV doc pm:af) (an:Option Addr) (cdv ct:af) (us:List af),us.length=ps.length->cA (bB x x (qa st) (jM st) (j8 st) .none kV doc pm an cdv ct) ⟨us,[]⟩=pure (ps.zip us))
  (ok:∀{f:Addr} {fd:FuncData},Fun K x x st f fd->FnOk P w K mg base (CX1 P w) k f fd ps sp):CalX P w K mg base k x ps sp:=by
 have F:=vi (st:=st) l c k'
 exact ⟨f,_,ok F,F.binds hb,bh X G a,k'⟩
end L2
end
section
namespace L2
open PySem.W
section
variable {X:Cx}{pins pn:List (Addr×Obj)}{σ:St}{H:Hp}{s:Shared}{J:af->St->Hp->Prop}
theorem okP (ok:X.Ok) (Y:Cx) (h:Y={ X with pn:=Y.pn,xe:=Y.xe }):Y.Ok:=by
 rw [h]
 exact ⟨ok.mod,ok.kind,ok.glob,ok.blt,ok.above,ok.inj,ok.has,ok.cab,ok.hd,ok.frames,ok.stk,ok.exf,ok.bs,ok.bsz,ok.noex,ok.exfs,ok.funs,ok.frf⟩
theorem spOf {Y:Cx}{pins':List (Addr×Obj)}{D:Ends}{f:Flow}{s':Shared}(g:∀{σ H},Inv Y pins' σ H s'->Inv X pins σ H s') (h:SP Y pins' D f s'):SP X pins D f s':=by
 cases f with
 | next=>obtain ⟨σ',H',I,q⟩:=h;exact ⟨σ',H',g I,q⟩
 | brk=>obtain ⟨σ',H',I,q⟩:=h;exact ⟨σ',H',g I,q⟩
 | cont=>obtain ⟨σ',H',I,q⟩:=h;exact ⟨σ',H',g I,q⟩
 | ret u=>obtain ⟨v,σ',H',I,r,q⟩:=h;exact ⟨v,σ',H',g I,r,q⟩
end
end L2
end
section
namespace L2
open PySem.W
section
variable {s:Shared}{A:bb}{prog:Program}{w:aU}{E:af->Shared->Prop}
end
section
variable {X:Cx}
end
end L2
end
section
namespace L2
open PySem.W
end L2
end
section
namespace L2
open PySem.W
section
variable {X:Cx}{o e:Expr}{es:List Expr}{to:TE}{t:TA}{name:Str}{apos cpos:Pos}{id:String}{r:V->List V->Hp->VK->Prop}
end
end L2
end
section
namespace L2
open PySem.W
noncomputable abbrev uZ (ifs:List Expr) (env:Env):Sem Bool:=sQ ifs true λc r=>if r=true then do let ok <- isTrue c env (eval c env);pure (bS ok) else pure (bS r)
noncomputable abbrev xu (elt tg iter tg2 iter2:Expr) (ifs ifs2:List Expr) (scope:Scope) (pos:Pos):Expr:=.ListComp elt [⟨tg,iter,ifs,0⟩,⟨tg2,iter2,ifs2,0⟩] scope pos
theorem ZZ (elt tg iter tg2 iter2:Expr) (ifs ifs2:List Expr) (scope:Scope) (pos:Pos) (it acc:af) (env:Env) :
  oq (xu elt tg iter tg2 iter2 ifs ifs2 scope pos) 0 it acc env=(fD iter.pos >>= λ_=>eU it >>= λr=>match r with
   | none=>pure (.done .next)
   | some v=>cU tg it v >>= λ_=>ij tg env v >>= λ_=>uZ ifs env >>= λok =>
    (if ok=true then (eval iter2 env >>= λx=>fD iter2.pos >>= λ_=>cx iter2 env x >>= λx=>fe [x] (lq x) >>= λi2=>runOwn (.compStart (xu elt tg iter tg2 iter2 ifs ifs2 scope pos) 1 i2 acc env) env >>= λ_=>again (.compLoop (xu elt tg iter tg2 iter2 ifs ifs2 scope pos) 0 it acc env))
     else again (.compLoop (xu elt tg iter tg2 iter2 ifs ifs2 scope pos) 0 it acc env))):=by
 rfl
theorem V6 (elt tg iter tg2 iter2:Expr) (ifs ifs2:List Expr) (scope:Scope) (pos:Pos) (it acc:af) (env:Env) :
  oq (xu elt tg iter tg2 iter2 ifs ifs2 scope pos) 1 it acc env=(fD iter2.pos >>= λ_=>eU it >>= λr=>match r with
   | none=>pure (.done .next)
   | some v=>cU tg2 it v >>= λ_=>ij tg2 env v >>= λ_=>uZ ifs2 env >>= λok =>
    (if ok=true then ((eval elt env >>= λx=>call (.builtin "list.append") [acc,x] >>= λ_=>pure ()) >>= λ_=>again (.compLoop (xu elt tg iter tg2 iter2 ifs ifs2 scope pos) 1 it acc env))
     else again (.compLoop (xu elt tg iter tg2 iter2 ifs ifs2 scope pos) 1 it acc env))):=by
 rfl
section
variable {s:Shared}{A:bb}{prog:Program}{w:aU}{R:nu->Shared->Prop}{elt tg iter tg2 iter2:Expr}{ifs ifs2:List Expr}{scope:Scope}{pos:Pos}{it acc:af}{env:Env}
theorem Yr (I:Nat->Shared->Prop)
  (turn:∀n s,I n s->au (aC prog w) A (eU it) (λr s₁=>match r with
   | none=>R (.ok .next) s₁
   | some v=>au (aC prog w) A (cU tg2 it v) (λ_ s₂=>au (aC prog w) A (ij tg2 env v) (λ_ s₃=>au (aC prog w) A (uZ ifs2 env) (λok s₄ =>
      if ok=true then au (aC prog w) A (eval elt env) (λx s₅=>au (aC prog w) A (call (.builtin "list.append") [acc,x]) (λ_ s₆=>∃m,m<n/\I m s₆) (λ_ _=>False) s₅) (λ_ _=>False) s₄
      else ∃m,m<n/\I m s₄) (λ_ _=>False) s₃) (λ_ _=>False) s₂) (λ_ _=>False) s₁) (λ_ _=>False) s)
  (n:Nat) (h:I n s):d5 (aC prog w) A (.compLoop (xu elt tg iter tg2 iter2 ifs ifs2 scope pos) 1 it acc env) R s:=by
 refine oo rfl I (λn s hI=>?_) n h
 show au _ A ((oq (xu elt tg iter tg2 iter2 ifs ifs2 scope pos) 1 it acc env).onRaise (λx=>do iJ x env;md x)) _ _ s
 refine pH ?_;rw [V6]
 refine aa (de (aa (b7 (turn n s hI) (λr s₁ h₁=>?_) λ_ _ h'=>h'.elim)))
 cases r with
 | none=>exact wpAny_pure h₁
 | some v =>
  refine aa (b7 h₁ (λ_ s₂ h₂=>?_) λ_ _ h'=>h'.elim)
  refine aa (b7 h₂ (λ_ s₃ h₃=>aa (b7 h₃ (λok s₄ h₄=>?_) λ_ _ h'=>h'.elim)) λ_ _ h'=>h'.elim)
  cases ok with
  | false=>exact wpAny_pure ⟨rfl,h₄⟩
  | true=>exact aa (aa (b7 h₄ (λx s₅ h₅=>aa (b7 h₅ (λ_ s₆ h₆=>wpAny_pure (wpAny_pure ⟨rfl,h₆⟩)) λ_ _ h'=>h'.elim)) λ_ _ h'=>h'.elim))
theorem Zq {R:nu->Shared->Prop}(h0:d5 (aC prog w) A (.compLoop (xu elt tg iter tg2 iter2 ifs ifs2 scope pos) 1 it acc env) R s)
  (h:au (aC prog w) A (lq it) (λi2 s'=>d5 (aC prog w) A (.compLoop (xu elt tg iter tg2 iter2 ifs ifs2 scope pos) 1 i2 acc env) R s') (λ_ _=>False) s) :
  d5 (aC prog w) A (.compStart (xu elt tg iter tg2 iter2 ifs ifs2 scope pos) 1 it acc env) R s:=by
 refine codeAny_of_tree ?_
 show au _ _ ((compStart (xu elt tg iter tg2 iter2 ifs ifs2 scope pos) 1 it acc env).onRaise (λx=>do iJ x env;fD theWindowsPlace)) _ _ s
 refine wpAny_notedAt ?_;unfold compStart;show au _ _ (ask >>= _) _ _ s
 refine aa (wpAny_askSetting (wpAny_ite ?_))
 split
 ·first | exact aa (wpAny_pure (wpAny_pure (fB rfl h0))) | exact wpAny_pure (fB rfl h0)
 ·first
   | exact aa (fY (aa (de (aa (b7 h (λi2 s' h'=>wpAny_pure (fB rfl h')) λ_ _ x=>x.elim)))))
   | (refine aa (fY ?_);show au _ _ (fD iter2.pos >>= _) _ _ s;exact aa (de (aa (b7 h (λi2 s' h'=>wpAny_pure (fB rfl h')) λ_ _ x=>x.elim))))
theorem ZS (I:Nat->Shared->Prop) (hs2:∀x,cx iter2 env x=pure x)
  (turn:∀n s,I n s->au (aC prog w) A (eU it) (λr s₁=>match r with
   | none=>R (.ok .next) s₁
   | some v=>au (aC prog w) A (cU tg it v) (λ_ s₂=>au (aC prog w) A (ij tg env v) (λ_ s₃=>au (aC prog w) A (uZ ifs env) (λok s₄ =>
      if ok=true then au (aC prog w) A (eval iter2 env) (λx s₅=>au (aC prog w) A (lq x) (λi2 s₆=>d5 (aC prog w) A (.compStart (xu elt tg iter tg2 iter2 ifs ifs2 scope pos) 1 i2 acc env) (λr s'=>match r with | .ok _=>∃m,m<n/\I m s' | .error _=>False) s₆) (λ_ _=>False) s₅) (λ_ _=>False) s₄
      else ∃m,m<n/\I m s₄) (λ_ _=>False) s₃) (λ_ _=>False) s₂) (λ_ _=>False) s₁) (λ_ _=>False) s)
  (n:Nat) (h:I n s):d5 (aC prog w) A (.compLoop (xu elt tg iter tg2 iter2 ifs ifs2 scope pos) 0 it acc env) R s:=by
 refine oo rfl I (λn s hI=>?_) n h
 show au _ A ((oq (xu elt tg iter tg2 iter2 ifs ifs2 scope pos) 0 it acc env).onRaise (λx=>do iJ x env;md x)) _ _ s
 refine pH ?_;rw [ZZ]
 refine aa (de (aa (b7 (turn n s hI) (λr s₁ h₁=>?_) λ_ _ h'=>h'.elim)))
 cases r with
 | none=>exact wpAny_pure h₁
 | some v =>
  refine aa (b7 h₁ (λ_ s₂ h₂=>?_) λ_ _ h'=>h'.elim)
  refine aa (b7 h₂ (λ_ s₃ h₃=>aa (b7 h₃ (λok s₄ h₄=>?_) λ_ _ h'=>h'.elim)) λ_ _ h'=>h'.elim)
  cases ok with
  | false=>exact wpAny_pure ⟨rfl,h₄⟩
  | true =>
   refine aa (b7 h₄ (λx s₅ h₅=>aa (de (aa (wpAny_of_eq (hs2 x) (aa (bN (b7 h₅ (λi2 s₆ h₆=>aa (wpAny_runOwn ?_)) λ_ _ h'=>h'.elim))))))) λ_ _ h'=>h'.elim)
   rw [Around.mark_none]
   refine dz h₆ λr s' q=>?_
   cases r with
   | ok f=>exact wpAny_pure ⟨rfl,q⟩
   | error e=>exact q.elim
end
noncomputable def km (acc:Addr) (g2:TG) (ti2:TT) (te:TE) (J2:It) (NX:St->Hp->Prop) (σ3:St) (H5:Hp):Prop :=
 ∃W2:Nat->Nat->St->Hp->Prop,(∃m,W2 0 m σ3 H5)/\∀j m σ6 H6,W2 j m σ6 H6->(J2.stop j H6/\NX σ6 H6)\/(J2.go j H6/\∃NX2:St->Hp->Prop,(∀σ7 H7,NX2 σ7 H7->∃m',m'<m/\W2 (j+1) m' σ7 H7) /\
  ∀y H7,J2.yld j H6 y H7->g2 y σ6 H7 λσ8 H8=>ti2 σ8 H8 λok2 H9=>if ok2=true then te σ8 H9 λv H10=>∃ys,H10 acc=some (.lst ys)/\ys.length<sizeLine/\NX2 σ8 (upd H10 acc (.lst (ys++[v]))) else NX2 σ8 H9)
section
variable {X:Cx}{pos:Pos}
noncomputable def UU (own:Nat) (caps:List Nat) (wi:TI) (g:TG) (ti:TT) (wi2:TI) (g2:TG) (ti2:TT) (te:TE):TE:=λσ H Q=>wi σ H λJ H1=>∀acc,H1 acc=none ->
 ∃W:Nat->Nat->St->Hp->Prop,(∃m,W 0 m (yZ own caps σ) (upd H1 acc (.lst [])))/\∀i m σ' H',W i m σ' H' ->
  (J.stop i H'/\Q (.ref acc) H') \/
  (J.go i H'/\∃NX:St->Hp->Prop,(∀σ2 H2,NX σ2 H2->∃m',m'<m/\W (i+1) m' σ2 H2) /\
   ∀x H2,J.yld i H' x H2->g x σ' H2 λσ3 H3=>ti σ3 H3 λok H4=>if ok=true then wi2 σ3 H4 λJ2 H5=>km acc g2 ti2 te J2 NX σ3 H5 else NX σ3 H4)
theorem Zg {osc:Scope}{ON N:List Str}{scope:Scope}{own:Nat}{caps:List Nat}{cl:List (Str×Addr)}{tg elt iter tg2 iter2:Expr}{ifs ifs2:List Expr}{g g2:TG}{ti ti2:TT}{wi2:TI}{te:TE}{pins:List (Addr×Obj)}{σ:St}{H:Hp}{s:Shared}{fp:List Addr}{it:Addr}
  {tn:Nat->Heap->Prop} {J:It} {Q:VK} {RR:af->Addr->nu->Shared->Prop} {E:af->Shared->Prop}
  (hc:X.calm=true) (S:CompSc osc ON scope own N caps) (hsc:X.env.scope=osc) (hN:X.N=ON) (hcl:∀x,cl.lookup x=if (x,b8)∈scope.names then X.env.cells.lookup x else none)
  (hg:∀cl C s H ex,PG (X.block scope cl C N s H ex) tg g) (hif:∀cl C s H ex,Jt (X.block scope cl C N s H ex) ifs ti) (hi2:∀cl C s H ex,PI (X.block scope cl C N s H ex) tg2 iter2 wi2) (hg2:∀cl C s H ex,PG (X.block scope cl C N s H ex) tg2 g2) (hif2:∀cl C s H ex,Jt (X.block scope cl C N s H ex) ifs2 ti2) (he:∀cl C s H ex,PE (X.block scope cl C N s H ex) elt te) (hs2:∀env x,cx iter2 env x=pure x)
  (I:Inv X pins σ H s) (T:Turn X.prog X.w X.K tg J fp it tn) (st:tn 0 s.heap) (hf:∀b∈fp,uy X pins H b)
  (hw:∀acc,H acc=none->∃W:Nat->Nat->St->Hp->Prop,(∃m,W 0 m (yZ own caps σ) (upd H acc (.lst [])))/\∀i m σ' H',W i m σ' H' ->
   (J.stop i H'/\Q (.ref acc) H')\/(J.go i H'/\∃NX:St->Hp->Prop,(∀σ2 H2,NX σ2 H2->∃m',m'<m/\W (i+1) m' σ2 H2) /\
    ∀x H2,J.yld i H' x H2->g x σ' H2 λσ3 H3=>ti σ3 H3 λok H4=>if ok=true then wi2 σ3 H4 λJ2 H5=>km acc g2 ti2 te J2 NX σ3 H5 else NX σ3 H4))
  (fin:∀(D C:Addr) (H':Hp) (s':Shared),Inv X pins σ H' s'->BlockAt X pins H' C->(∃m,s'.heap.Ns C m)->Q (.ref D) H'->RR (.ref D) C (.ok .next) s') :
  au (aC X.prog X.w) X.A (pW []) (λacc s₃=>au (aC X.prog X.w) X.A (rJ scope X.env.globals cl [] X.env.qual none .none (some X.env)) (λcenv s₄ =>
   d5 (aC X.prog X.w) X.A (.compStart (xu elt tg iter tg2 iter2 ifs ifs2 scope pos) 0 (.ref it) acc { cenv with scope:=relabel scope X.env }) (RR acc cenv.locals) s₄) E s₃) E s:=by
 have hfs:∀b∈fp,b<s.heap.objs.size:=λb hb=>by
  obtain ⟨o,e,_⟩:=T.obj _ _ st b hb
  exact ay e
 refine bx (mD S.nocell (by intro y hy;simp at hy) (λh₁ hns₁ hsb₁=>?_) S.kind)
 dsimp only at hns₁ hsb₁ ⊢
 generalize hH2:s.heap.push { cls:=.type "list",dict:=none,data:=.seq ([]:List af).toArray }=H2 at hns₁ hsb₁ ⊢
 have hCsz:H2.objs.size=s.heap.objs.size+1:=by rw [<- hH2,cz]
 have old:∀b o,s.heap.get? b=some o->h₁.get? b=some o:=λb o e=>hsb₁.extBut b o (aB (by rw [hCsz];exact cf (ay e))) (ai _ (hH2 ▸ ai _ e))
 have eD:h₁.get? s.heap.objs.size=some { cls:=.type "list",data:=.seq #[] }:=hsb₁.extBut _ _ (aB ∅) (ai _ (hH2 ▸ az _ rfl))
 have hDn:H s.heap.objs.size=none:=I.hok.fresh (ao _)
 obtain ⟨W,⟨m0,w0⟩,turn⟩:=hw s.heap.objs.size hDn
 have hns:h₁.Ns H2.objs.size λ_=>none:=hns₁
 have I1:Inv (X.block scope cl H2.objs.size N s H fp) [] (yZ own caps σ) (upd H s.heap.objs.size (.lst [])) { s with heap:=h₁,toks:=s.toks+([]:List (Str×af)).length } :=
  uK S hsc hN hcl I hf hfs rfl hCsz old eD hns _
 have st1:tn 0 h₁:=T.keep 0 _ _ st λb _ o e=>old b o e
 have fpB:∀{H':Hp},(∀b∈fp,H' b=none)->∀b∈fp,uy (X.block scope cl H2.objs.size N s H fp) [] H' b:=λ{H'} hn b hb=>by
  have ok:=I1.ok
  exact ⟨hn b hb,(ok.exf b hb).1,ok.exfs b hb,.inl hb,(ok.exf b hb).2,λp hp=>absurd (show p∈([]:List (Addr×Obj)) from hp) (by simp)⟩
 have back:∀{σ':St} {H':Hp} {s':Shared},Inv (X.block scope cl H2.objs.size N s H fp) [] σ' H' s'->Q (.ref s.heap.objs.size) H'->RR (.ref s.heap.objs.size) H2.objs.size (.ok .next) s':=λ{σ' H' s'} J1 q=>by
  have J2:Inv X pins σ H' s':=I.call' (ch:=fp) J1.os J1.base J1.hok J1.bare λb hb=>⟨(hf b hb).2.2.2.1,(hf b hb).2.1,(hf b hb).2.2.2.2.1,(hf b hb).2.2.2.2.2⟩
  obtain ⟨m,hm,_⟩:=J1.loc
  refine fin _ _ H' s' J2 ⟨J1.free,d0 (aN I.lt ∅),aG I.sz ∅,λx c e z=>?_,λp hp z=>?_⟩ ⟨m,hm⟩ q
  ·obtain ⟨v,y⟩:=I.cell x c e
   have h1:H2.objs.size<s.heap.objs.size:=z ▸ y.lt
   exact absurd h1 ∅
  ·have h1:H2.objs.size<s.heap.objs.size:=z ▸ ay (I.pin p hp).1
   exact absurd h1 ∅
 have loop:∀s₃:Shared,s₃={ s with heap:=h₁,toks:=s.toks+([]:List (Str×af)).length } ->
   d5 (aC X.prog X.w) X.A (.compLoop (xu elt tg iter tg2 iter2 ifs ifs2 scope pos) 0 (.ref it) (.ref s.heap.objs.size) (rG scope cl H2.objs.size X.env)) (RR (.ref s.heap.objs.size) H2.objs.size) s₃:=by
  rintro s₃ rfl
  refine ZS (λn s'=>∃i σ' H',Inv (X.block scope cl H2.objs.size N s H fp) [] σ' H' s'/\tn i s'.heap/\(∀b∈fp,H' b=none)/\W i n σ' H') (hs2 _) ?_ m0
   ⟨0,_,_,I1,st1,λb hb=>by rw [j6 (aB (hfs b hb))];exact (hf b hb).1,w0⟩
  rintro n s3 ⟨i,σ3,H3,I3,st3,fr3,w3⟩
  rcases turn i n σ3 H3 w3 with ⟨stop,qn⟩ | ⟨go,NX,hNX,step⟩
  ·refine thn (T.done (X.block scope cl H2.objs.size N s H fp) rfl rfl rfl hc i [] s3 σ3 H3 _ I3 (fpB fr3) st3 stop) λr s4 ⟨hr,I4⟩=>?_
   subst hr
   exact back I4 qn
  ·refine thn (T.item (X.block scope cl H2.objs.size N s H fp) rfl rfl rfl hc i [] s3 σ3 H3 _ I3 (fpB fr3) st3 go) λr s4 ⟨u,hr,h4⟩=>?_
   subst hr
   refine thn h4 λ_ s5 ⟨x,H5,I5,r5,y5,st5,fr5⟩=>?_
   have I5':=I5.pinned (fpB fr5) (T.obj _ _ st5)
   refine thn (hg cl H2.objs.size s H fp _ s5 σ3 H5 x u _ I5' r5 (step x H5 y5)) λ_ s6 ⟨σ6,H6,I6,q6⟩=>?_
   refine thn (hif cl H2.objs.size s H fp _ s6 σ6 H6 _ I6 q6) λok s7 ⟨H7,I7,q7⟩=>?_
   have again:∀{s8:Shared} {σ8:St} {H8:Hp},Inv (X.block scope cl H2.objs.size N s H fp) ([]++zd fp s5.heap) σ8 H8 s8->NX σ8 H8->∃m,m<n/\∃i σ' H',Inv (X.block scope cl H2.objs.size N s H fp) [] σ' H' s8/\tn i s8.heap/\(∀b∈fp,H' b=none)/\W i m σ' H':=λ{s8 σ8 H8} I8 n8=>by
    obtain ⟨m',hm,w8⟩:=hNX σ8 H8 n8
    refine ⟨m',hm,i+1,σ8,H8,I8.unpinned,T.keep _ _ _ st5 λb hb o e=>(I8.pin (b,o) (aI _ (aI _ (qT hb e)))).1,λb hb=>?_,w8⟩
    obtain ⟨o,e,d⟩:=T.obj _ _ st5 b hb
    exact (I8.pin (b,o) (aI _ (aI _ (qT hb e)))).2.1
   cases ok with
   | false =>
    rw [if_neg ar] at q7 ⊢
    exact again I7 q7
   | true =>
    rw [if_pos rfl] at q7 ⊢
    refine thn (hi2 cl H2.objs.size s H fp _ s7 σ6 H7 _ I7 q7) λv s8 h8=>thn h8 λitv s9 h9=>?_
    obtain ⟨it2,fp2,tn2,J2,H9,e,I9,T2,st9,f9,W2,⟨m2,w2⟩,turn2⟩:=h9
    subst e
    have stat2:∀{H':Hp},(∀b∈fp2,H' b=none)->∀b∈fp2,uy (X.block scope cl H2.objs.size N s H fp) ([]++zd fp s5.heap) H' b:=λhn b hb=>⟨hn b hb,(f9 b hb).2⟩
    have inner:d5 (aC X.prog X.w) X.A (.compLoop (xu elt tg iter tg2 iter2 ifs ifs2 scope pos) 1 (.ref it2) (.ref s.heap.objs.size) (rG scope cl H2.objs.size X.env)) (λr s'=>match r with | .ok _=>∃m,m<n/\∃i σ' H',Inv (X.block scope cl H2.objs.size N s H fp) [] σ' H' s'/\tn i s'.heap/\(∀b∈fp,H' b=none)/\W i m σ' H' | .error _=>False) s9:=by
     refine Yr (λn2 s'=>∃j σ' H',Inv (X.block scope cl H2.objs.size N s H fp) ([]++zd fp s5.heap) σ' H' s'/\tn2 j s'.heap/\(∀b∈fp2,H' b=none)/\W2 j n2 σ' H') ?_ m2 ⟨0,_,_,I9,st9,λb hb=>(f9 b hb).1,w2⟩
     rintro n2 s10 ⟨j,σ10,H10,I10,st10,fr10,w10⟩
     rcases turn2 j n2 σ10 H10 w10 with ⟨stop2,nx2⟩ | ⟨go2,NX2,hNX2,step2⟩
     ·refine thn (T2.done (X.block scope cl H2.objs.size N s H fp) rfl rfl rfl hc j _ s10 σ10 H10 _ I10 (stat2 fr10) st10 stop2) λr s11 ⟨hr,I11⟩=>?_
      subst hr
      exact again I11 nx2
     ·refine thn (T2.item (X.block scope cl H2.objs.size N s H fp) rfl rfl rfl hc j _ s10 σ10 H10 _ I10 (stat2 fr10) st10 go2) λr s11 ⟨u2,hr,h11⟩=>?_
      subst hr
      refine thn h11 λ_ s12 ⟨x2,H12,I12,r12,y12,st12,fr12⟩=>?_
      have I12':=I12.pinned (stat2 fr12) (T2.obj _ _ st12)
      refine thn (hg2 cl H2.objs.size s H fp _ s12 σ10 H12 x2 u2 _ I12' r12 (step2 x2 H12 y12)) λ_ s13 ⟨σ13,H13,I13,q13⟩=>?_
      refine thn (hif2 cl H2.objs.size s H fp _ s13 σ13 H13 _ I13 q13) λok2 s14 ⟨H14,I14,q14⟩=>?_
      have again2:∀{s15:Shared} {σ15:St} {H15:Hp},Inv (X.block scope cl H2.objs.size N s H fp) (([]++zd fp s5.heap)++zd fp2 s12.heap) σ15 H15 s15->NX2 σ15 H15->∃m,m<n2/\∃j σ' H',Inv (X.block scope cl H2.objs.size N s H fp) ([]++zd fp s5.heap) σ' H' s15/\tn2 j s15.heap/\(∀b∈fp2,H' b=none)/\W2 j m σ' H':=λ{s15 σ15 H15} I15 n15=>by
       obtain ⟨m',hm,w15⟩:=hNX2 σ15 H15 n15
       refine ⟨m',hm,j+1,σ15,H15,I15.unpinned,T2.keep _ _ _ st12 λb hb o e=>(I15.pin (b,o) (aI _ (aI _ (qT hb e)))).1,λb hb=>?_,w15⟩
       obtain ⟨o,e,d⟩:=T2.obj _ _ st12 b hb
       exact (I15.pin (b,o) (aI _ (aI _ (qT hb e)))).2.1
      cases ok2 with
      | false =>
       rw [if_neg ar] at q14 ⊢
       exact again2 I14 q14
      | true =>
       rw [if_pos rfl] at q14 ⊢
       refine thn (he cl H2.objs.size s H fp _ s14 σ13 H14 _ I14 q14) λv15 s15 ⟨y15,H15,I15,r15,ys,e15,z15,q15⟩=>?_
       refine thn (qA _ s15 σ13 H15 (.ref s.heap.objs.size) [y15] _ [v15] (λ_ H16=>NX2 σ13 H16) I15 rfl (.cons r15 .nil) ⟨_,ys,y15,rfl,rfl,e15,z15,q15⟩) λ_ s16 ⟨_,H16,I16,_,q16⟩=>?_
       exact again2 I16 q16
    exact Zq inner (T2.self _ 0 _ _ _ st9 inner)
 exact lX (loop _ rfl) (T.self _ 0 _ _ _ st1 (loop _ rfl))
theorem Yy {osc:Scope}{ON N:List Str}{scope:Scope}{own:Nat}{caps:List Nat}{tg elt iter tg2 iter2:Expr}{ifs ifs2:List Expr}{wi wi2:TI}{g g2:TG}{ti ti2:TT}{te:TE}(S:CompSc osc ON scope own N caps)
  (hc:X.calm=true) (hsc:X.env.scope=osc) (hN:X.N=ON) (hi:PI X tg iter wi)
  (hg:∀cl C s H ex,PG (X.block scope cl C N s H ex) tg g) (hif:∀cl C s H ex,Jt (X.block scope cl C N s H ex) ifs ti) (hi2:∀cl C s H ex,PI (X.block scope cl C N s H ex) tg2 iter2 wi2) (hg2:∀cl C s H ex,PG (X.block scope cl C N s H ex) tg2 g2) (hif2:∀cl C s H ex,Jt (X.block scope cl C N s H ex) ifs2 ti2) (he:∀cl C s H ex,PE (X.block scope cl C N s H ex) elt te)
  (hs:∀x,cx iter X.env x=pure x:=by intro _;rfl) (hs2:∀env x,cx iter2 env x=pure x:=by intro _ _;rfl):PE X (.ListComp elt [⟨tg,iter,ifs,0⟩,⟨tg2,iter2,ifs2,0⟩] scope pos) (UU own caps wi g ti wi2 g2 ti2 te):=by
 intro pins s σ H Q I h
 obtain ⟨cl,hclos,hcl⟩:=vf (QW S hsc I)
 rw [sj]
 refine eZ (use:=none) rfl hs hclos S.kind S.loc (thn (hi pins s σ H _ I h) λv s1 h1=>thn h1 λitv s2 h2=>?_)
 obtain ⟨it,fp,tn,J,H2,e,I2,T,st2,f2,hw⟩:=h2
 subst e
 refine Zg (RR:=λacc C=>sS (aC X.prog X.w) X.A X.xe none (EP X pins σ Q) acc C) hc S hsc hN hcl hg hif hi2 hg2 hif2 he hs2 I2 T st2 f2 hw λD C H' s' J1 B ⟨m,hm⟩ q=>?_
 exact ⟨m,hm,λh' hs'=>⟨.ref D,H',B.gone J1 hs',rfl,q⟩⟩
end
end L2
end
section
namespace L2
open PySem.W
structure CalM (P:Program) (w:aU) (K:ag) (mg:Str->Option af) (base:Heap) (k:Nat) (C:Addr) (m:Str) (ps:List Str) (sp:Sp):Prop where
 ex:∃f fd,FnOk P w K mg base CX0 k f fd ps sp/\yk K fd ps []/\Meth K C m f
structure CalMX (P:Program) (w:aU) (K:ag) (mg:Str->Option af) (base:Heap) (k:Nat) (C:Addr) (m:Str) (ps:List Str) (sp:Sp):Prop where
 ex:∃f fd,FnOk P w K mg base (CX1 P w) k f fd ps sp/\yk K fd ps []/\Meth K C m f
section
variable {X:Cx}{k:Nat}{f C:Addr}{fd:FuncData}{ps:List Str}{sp:Sp}{x m:Str}{p pos apos:Pos}{e o:Expr}{es:List Expr}{ta:TE}{t:TA}{J:af->St->Hp->Prop}
theorem G7 {pins:List (Addr×Obj)}{σ:St}{H:Hp}{s:Shared}{Q:VK}{us:List af}{vs:List V}(F:FnOk X.prog X.w X.K X.mg X.base (CX1 X.prog X.w) k f fd ps sp) (hr:Room k X.A) (hb:yk X.K fd ps []) (ac:Acc X J)
  (I:Inv X pins σ H s) (r:jz vs us) (h:sp vs H Q λcls _ H'=>J cls σ H'):au (aC X.prog X.w) X.A (call (.ref f) us) (EP X pins σ Q) X.xe s:=by
 have hl:us.length=ps.length:=by rw [<- r.length];exact F.len _ _ _ _ h
 have hb':=hb s us I.kIn (by rw [bp];exact hl)
 rw [bp] at hb'
 refine lR (dz (F.run X.A X.stack s H ⟨us,[]⟩ us vs Q _ hr I.env0 hb' r h) λr s' hq=>?_)
 cases r with
 | error e =>
  obtain ⟨a,cls,H',rfl,os,b,u,ok,fy,j⟩:=hq
  exact ac pins σ H' s' a cls ⟨s,H,I,os,b,u,ok,fy⟩ j
 | ok fl =>
  cases fl with
  | ret u=>exact I.after hq
  | next=>exact bA hq
  | brk=>exact bA hq
  | cont=>exact bA hq
theorem pe_m {pl:Sem Bool}(he:PE X o ta) (c:Cls X.K C) (cm:CalM X.prog X.w X.K X.mg X.base k C m ps sp) (hr:Room k X.A) (ha:PA X (e::es) t)
  (hst:aK (e::es) X.env=(false,eval e X.env)::aK es X.env:=by rfl) (hpl:(cF pos (aK es X.env)).any (·.1)=false:=by rfl)
  (ht:eval (.Call (.Attribute o m apos) (e::es) [] pos) X.env=(do let ov <- eval o X.env;fD apos.atName;let (f,first) <- fe [ov] (lI ov m pl);nX pos f first (cF pos (aK (e::es) X.env)) (iM pos (eK [] X.env))):=by rfl) :
  PE X (.Call (.Attribute o m apos) (e::es) [] pos) (UA C m sp [] E0 ta t):=by
 obtain ⟨f,fd,F,hb,hm⟩:=cm.ex
 exact Vy he c hm F hr hb .nil Ur ha hst hpl ht
noncomputable def Wp (C:Addr) (m:Str) (sp:Sp) (J:af->St->Hp->Prop) (ta:TE) (t:TA):TE:=λσ H Q=>ta σ H λx H1=>∃a dx fs,x = .ref a/\H1 a=some (.ins C dx fs)/\fs.lookup m=none/\t σ H1 λvs H2=>sp (x::vs) H2 Q λcls _ H'=>J cls σ H'
theorem zR {pl:Sem Bool}(he:PE X o ta) (c:Cls X.K C) (cm:CalMX X.prog X.w X.K X.mg X.base k C m ps sp) (hr:Room k X.A) (ac:Acc X J) (ha:PA X (e::es) t)
  (hst:aK (e::es) X.env=(false,eval e X.env)::aK es X.env:=by rfl) (hpl:(cF pos (aK es X.env)).any (·.1)=false:=by rfl)
  (ht:eval (.Call (.Attribute o m apos) (e::es) [] pos) X.env=(do let ov <- eval o X.env;fD apos.atName;let (f,first) <- fe [ov] (lI ov m pl);nX pos f first (cF pos (aK (e::es) X.env)) (iM pos (eK [] X.env))):=by rfl) :
  PE X (.Call (.Attribute o m apos) (e::es) [] pos) (Wp C m sp J ta t):=by
 obtain ⟨f,fd,F,hb,hm⟩:=cm.ex
 intro pins s σ H Q I h
 refine fR (pl:=pl) (thn (he pins s σ H _ I h) λu s1 ⟨x,H1,I1,rx,a,dx,fs,ex,ea,l,q⟩=>?_) ht
 subst ex
 obtain rfl:u=aQ a:=rx
 refine vj I1 ea c hm l ?_
 refine dQ (first:=[.ref a]) (h₀:=X.base) I.ok.mod.kin hm.kp (thn (ha pos pins s1 σ H1 _ I1 q) λus s2 ⟨vs,H2,I2,r,q2⟩=>⟨I2.kIn,?_⟩) hst hpl
 exact G7 (us:=.ref a::us) (vs:=.ref a::vs) F hr hb ac I2 (.cons rfl r) q2
structure MakX (P:Program) (w:aU) (K:ag) (mg:Str->Option af) (base:Heap) (k:Nat) (C:Addr) (x:Str) (ps:List Str) (sp:Sp):Prop where
 ex:∃f fd,FnOk P w K mg base (CX1 P w) k f fd ps sp/\yk K fd ps []/\Mk K C f/\mg x=some (.ref C)
noncomputable def Wz (C:Addr) (sp:Sp) (J:af->St->Hp->Prop) (t:TA):TE:=λσ H Q=>t σ H λvs H1=>∀x dx,H1 x=none->H1 dx=none->dx≠x ->
 sp (.ref x::vs) (upd (upd H1 dx (.own x)) x (.ins C dx [])) (λv H2=>v = .non/\Q (.ref x) H2) λcls _ H'=>J cls σ H'
theorem VM (c:MakX X.prog X.w X.K X.mg X.base k C x ps sp) (hr:Room (k+1) X.A) (ac:Acc X J) (hg:Gl X x) (ha:PA X (e::es) t) (hdb:(x == ("__debug__" : Str))=false:=by decide) (he:aK (e::es) X.env=(false,eval e X.env)::aK es X.env:=by rfl) (hpl:(cF pos (aK es X.env)).any (·.1)=false:=by rfl) :
  PE X (.Call (.Name x p) (e::es) [] pos) (Wz C sp J t):=by
 obtain ⟨f,fd,F,hb,M,hm⟩:=c.ex
 intro pins s0 σ H0 Q I0 h0
 refine dg (vU I0 hg hm ?_ hdb)
 refine dQ (h₀:=X.base) I0.ok.mod.kin M.kp (thn (ha pos pins s0 σ H0 _ I0 h0) λus s ⟨vs,H,I,r,h⟩=>⟨I.kIn,?_⟩) he hpl
 have hq:=h (s.heap.objs.size+1) s.heap.objs.size (I.hok.fresh (fk _)) (I.hok.fresh (ao _)) (aB (fV _))
 have I2:=Inv.made (C:=C) I
 have r2:jz (V.ref (s.heap.objs.size+1)::vs) (aQ (s.heap.objs.size+1)::us):=.cons rfl r
 have hl:(aQ (s.heap.objs.size+1)::us).length=ps.length:=by rw [<- r2.length];exact F.len _ _ _ _ hq
 have hb':=hb { s with heap:=_ } (aQ (s.heap.objs.size+1)::us) I2.kIn (by rw [bp];exact hl)
 rw [bp] at hb'
 refine lR (Vi (f:=f) I.kIn M.makes M.init (beq_iff_eq.mp M.fn) (dz (F.run _ X.stack _ _ ⟨aQ (s.heap.objs.size+1)::us,[]⟩ (aQ (s.heap.objs.size+1)::us) _ _ _ (hr.make C us []) (I2.env0.make C us []) hb' r2 hq) λr s' hq'=>?_))
 cases r with
 | error e =>
  obtain ⟨a,cls,H',rfl,os,b,u,ok,fy,j⟩:=hq'
  exact ac pins σ H' s' a cls ⟨_,_,I2,os,b,u,ok,fy⟩ j
 | ok fl =>
  cases fl with
  | ret u =>
   obtain ⟨v,H',I3,rv,ev,q3⟩:=I2.after hq'
   subst ev
   exact ⟨rv,⟨V.ref (s.heap.objs.size+1),H',I3,rfl,q3⟩⟩
  | next=>exact bA hq'
  | brk=>exact bA hq'
  | cont=>exact bA hq'
theorem xi {f:Str}(K:ag) (he:PE X e ta) (hb:dA e f X.env (eval e X.env)=eval e X.env:=by rfl) (hK:X.K=K:=by rfl):PE X (.Attribute e f pos) (WR K ta f):=by subst hK;exact UI he hb
theorem vS {f:Str}{value:Expr}{pos':Pos}{tv:TE}(K:ag) (ha:PE X o ta) (hv:PE X value tv) (hs:iI value (some (.Attribute o f pos')) pos.line X.env=pure false:=by rfl) (hK:X.K=K:=by rfl):PS X (.Assign [.Attribute o f pos'] value pos) (Gv K ta tv f):=by subst hK;exact Wi ha hv hs
end
theorem Wt {K:ag}{a acc:Addr}{xs:List V}{g2:TG}{ti2:TT}{te:TE}{NX:St->Hp->Prop}{σ:St}{H:Hp}(Pv:Nat->St->Hp->Prop) (h0:Pv 0 σ H) (hl:∀i σ H,i<=xs.length->Pv i σ H->SqT K H a xs)
  (hs:∀i x σ H,xs[i]? = some x->Pv i σ H->g2 x σ H λσ3 H3=>ti2 σ3 H3 λok H4=>if ok=true then te σ3 H4 λv H5=>∃ys,H5 acc=some (.lst ys)/\ys.length<sizeLine/\Pv (i+1) σ3 (upd H5 acc (.lst (ys++[v]))) else Pv (i+1) σ3 H4)
  (hd:∀σ H,Pv xs.length σ H->NX σ H):km acc g2 ti2 te (Itt K a) NX σ H:=by
 refine ⟨λi m σ H=>m=xs.length-i/\i<=xs.length/\Pv i σ H,⟨xs.length,by simp,aE _,h0⟩,λi m σ H z=>?_⟩
 obtain ⟨rfl,hi,p⟩:=z
 have q:=hl i σ H hi p
 by_cases hlt:i<xs.length
 ·refine .inr ⟨⟨xs,xs[i],q,by simp [hlt]⟩,Pv (i+1),λσ' H' p'=>⟨xs.length-(i+1),∅,rfl,hlt,p'⟩,λx H' y=>?_⟩
  obtain ⟨e,y⟩:=y
  subst e
  exact hs i x σ _ (y xs q) p
 ·obtain rfl:i=xs.length:=∅
  exact .inl ⟨⟨xs,q,ao _⟩,hd σ H p⟩
theorem ZT {K:ag}{a acc:Addr}{xs:List V}{g g2:TG}{ti ti2:TT}{wi2:TI}{te:TE}{R:Hp->Prop}{σ:St}{H:Hp}(Pv:Nat->St->Hp->Prop) (h0:Pv 0 σ H) (hl:∀i σ H,i<=xs.length->Pv i σ H->SqT K H a xs)
  (hs:∀i x σ H,xs[i]? = some x->Pv i σ H->g x σ H λσ3 H3=>ti σ3 H3 λok H4=>if ok=true then wi2 σ3 H4 λJ2 H5=>km acc g2 ti2 te J2 (Pv (i+1)) σ3 H5 else Pv (i+1) σ3 H4)
  (hd:∀σ H,Pv xs.length σ H->R H) :
  ∃W:Nat->Nat->St->Hp->Prop,(∃m,W 0 m σ H)/\∀i m σ' H',W i m σ' H' ->
   ((Itt K a).stop i H'/\R H')\/((Itt K a).go i H'/\∃NX:St->Hp->Prop,(∀σ2 H2,NX σ2 H2->∃m',m'<m/\W (i+1) m' σ2 H2) /\
    ∀x H2,(Itt K a).yld i H' x H2->g x σ' H2 λσ3 H3=>ti σ3 H3 λok H4=>if ok=true then wi2 σ3 H4 λJ2 H5=>km acc g2 ti2 te J2 NX σ3 H5 else NX σ3 H4):=by
 refine ⟨λi m σ H=>m=xs.length-i/\i<=xs.length/\Pv i σ H,⟨xs.length,by simp,aE _,h0⟩,λi m σ H z=>?_⟩
 obtain ⟨rfl,hi,p⟩:=z
 have q:=hl i σ H hi p
 by_cases hlt:i<xs.length
 ·refine .inr ⟨⟨xs,xs[i],q,by simp [hlt]⟩,Pv (i+1),λσ' H' p'=>⟨xs.length-(i+1),∅,rfl,hlt,p'⟩,λx H' y=>?_⟩
  obtain ⟨e,y⟩:=y
  subst e
  exact hs i x σ _ (y xs q) p
 ·obtain rfl:i=xs.length:=∅
  exact .inl ⟨⟨xs,q,ao _⟩,hd σ H p⟩
theorem Jg {X:Cx}:Acc X λ_ _ _=>False:=λ_ _ _ _ _ _ _ z=>z.elim
end L2
end
section
namespace L2
open PySem.W
inductive gN (K:ag) (n:Str) (s:Stmt):Prop
 | mk {f:Addr} {oc kV dc pm cd ct:af} {od an:Option Addr} {sl:Array (Option af)} (a:nsIn K mainGlobals n=some (some (.ref f))) (l:K.lookup f=some ⟨oc,od,.func (fnOf n n (qa s) (jM s) (j8 s) .none kV dc pm an cd ct),sl⟩) (c:codeIn K cd n=true) (k:keepIn K (.ref f)=true)
inductive gM (K:ag) (C:Addr) (m q:Str) (s:Stmt):Prop
 | mk {f:Addr} {oc kV dc pm cd ct:af} {od an:Option Addr} {sl:Array (Option af)} (a:findIn K (.ref C) m=some (some (.ref f))) (i:isFn K (.ref f)=true) (l:K.lookup f=some ⟨oc,od,.func (fnOf m q (qa s) (jM s) (j8 s) .none kV dc pm an cd ct),sl⟩) (c:codeIn K cd q=true) (k:keepIn K (.ref f)=true)
structure gE (K:ag) (n:Str) (C:Addr):Prop where
 e:nsIn K mainGlobals n=some (some (.ref C))
 x:excIn K C [.type "ValueError",.type "Exception",.type "BaseException",.type "object"] "ValueError.__new__" = true
 m:exmOne K (.ref C) (.ref C)=some true
noncomputable abbrev gB (x q:Str) (st:Stmt) (ps:List Str):Prop:=∀(kV doc pm:af) (an:Option Addr) (cdv ct:af) (us:List af),us.length=ps.length->cA (fnOf x q (qa st) (jM st) (j8 st) .none kV doc pm an cdv ct) ⟨us,[]⟩=pure (ps.zip us)
inductive Zt (P:Program) (w:aU) (K:ag) (mg:Str->Option af) (base:Heap):Prop
 | mk {h:Heap} (X:K.In h) (G:h.Ns mainGlobals mg)
section
variable {P:Program}{w:aU}{K:ag}{mg:Str->Option af}{base:Heap}{k:Nat}{x q:Str}{ps:List Str}{sp:Sp}{st:Stmt}{C:Addr}
theorem gN.cal (a:gN K x st) (z:Zt P w K mg base) (hb:gB x x st ps)
  (ok:∀{f:Addr} {fd:FuncData},Fun K x x st f fd->FnOk P w K mg base CX0 k f fd ps sp):Cal P w K mg base k x ps sp:=by
 obtain ⟨a,l,c,k'⟩:=a
 obtain ⟨X,G⟩:=z
 exact Cal.mk' X G a l c k' hb ok
theorem gN.calX (a:gN K x st) (z:Zt P w K mg base) (hb:gB x x st ps)
  (ok:∀{f:Addr} {fd:FuncData},Fun K x x st f fd->FnOk P w K mg base (CX1 P w) k f fd ps sp):CalX P w K mg base k x ps sp:=by
 obtain ⟨a,l,c,k'⟩:=a
 obtain ⟨X,G⟩:=z
 exact CalX.mk' X G a l c k' hb ok
theorem gM.cal (a:gM K C x q st) (z:Zt P w K mg base) (hb:gB x q st ps)
  (ok:∀{f:Addr} {fd:FuncData},Fun K x q st f fd->FnOk P w K mg base CX0 k f fd ps sp):CalM P w K mg base k C x ps sp:=by
 obtain ⟨a,i,l,c,k'⟩:=a
 have F:=vi (st:=st) l c k'
 exact ⟨_,_,ok F,F.binds hb,⟨a,i,k'⟩⟩
theorem gM.calX (a:gM K C x q st) (z:Zt P w K mg base) (hb:gB x q st ps)
  (ok:∀{f:Addr} {fd:FuncData},Fun K x q st f fd->FnOk P w K mg base (CX1 P w) k f fd ps sp):CalMX P w K mg base k C x ps sp:=by
 obtain ⟨a,i,l,c,k'⟩:=a
 have F:=vi (st:=st) l c k'
 exact ⟨_,_,ok F,F.binds hb,⟨a,i,k'⟩⟩
theorem gM.mak {y:Str}(a:gM K C "__init__" q st) (z:Zt P w K mg base) (m:makesIn K C=true) (kc:keepIn K (.ref C)=true) (n:nsIn K mainGlobals y=some (some (.ref C))) (hb:gB "__init__" q st ps)
  (ok:∀{f:Addr} {fd:FuncData},Fun K "__init__" q st f fd->FnOk P w K mg base (CX1 P w) k f fd ps sp):MakX P w K mg base k C y ps sp:=by
 obtain ⟨a,i,l,c,k'⟩:=a
 obtain ⟨X,G⟩:=z
 have F:=vi (st:=st) l c k'
 exact ⟨_,_,ok F,F.binds hb,⟨m,a,i,kc⟩,mg_of X G n⟩
end
theorem bnd1 {fd:FuncData}{ps:List Str}{us:List af}(hl:us.length=1) (h:∀a,cA fd ⟨[a],[]⟩=pure (ps.zip [a])):cA fd ⟨us,[]⟩=pure (ps.zip us):=match us,hl with | [a],_=>h a
theorem bnd2 {fd:FuncData}{ps:List Str}{us:List af}(hl:us.length=2) (h:∀a b,cA fd ⟨[a,b],[]⟩=pure (ps.zip [a,b])):cA fd ⟨us,[]⟩=pure (ps.zip us):=match us,hl with | [a,b],_=>h a b
theorem bnd3 {fd:FuncData}{ps:List Str}{us:List af}(hl:us.length=3) (h:∀a b c,cA fd ⟨[a,b,c],[]⟩=pure (ps.zip [a,b,c])):cA fd ⟨us,[]⟩=pure (ps.zip us):=match us,hl with | [a,b,c],_=>h a b c
theorem bnd4 {fd:FuncData}{ps:List Str}{us:List af}(hl:us.length=4) (h:∀a b c d,cA fd ⟨[a,b,c,d],[]⟩=pure (ps.zip [a,b,c,d])):cA fd ⟨us,[]⟩=pure (ps.zip us):=match us,hl with | [a,b,c,d],_=>h a b c d
theorem bnd5 {fd:FuncData}{ps:List Str}{us:List af}(hl:us.length=5) (h:∀a b c d e,cA fd ⟨[a,b,c,d,e],[]⟩=pure (ps.zip [a,b,c,d,e])):cA fd ⟨us,[]⟩=pure (ps.zip us):=match us,hl with | [a,b,c,d,e],_=>h a b c d e
theorem bnd6 {fd:FuncData}{ps:List Str}{us:List af}(hl:us.length=6) (h:∀a b c d e f,cA fd ⟨[a,b,c,d,e,f],[]⟩=pure (ps.zip [a,b,c,d,e,f])):cA fd ⟨us,[]⟩=pure (ps.zip us):=match us,hl with | [a,b,c,d,e,f],_=>h a b c d e f
end L2
end
section
namespace L2
open PySem.W
end L2
end
section
namespace L2
end L2
namespace L2
section
variable (P:Program) (w:aU)
end
section
variable {P:Program}{w:aU}{H H':Hp}{h h':Heap}{a:Addr}{o:HO}
end
section
variable {P:Program}{w:aU}{H:Hp}{h h':Heap}{x e:Addr}{o':HO}
end
section
variable {fs fs' ex ex':List Addr}{H H1 H2:Hp}{h h1 h2 h':Heap}{a x e:Addr}{o:HO}
end
end L2
namespace L2
section
variable {X:Cx}{pins:List (Addr×Obj)}{σ:List (Option V)}{H H':Hp}{s:Shared}{h':Heap}
end
end L2
namespace L2
section
variable {X:Cx}
variable {a b:Expr}{ta tb:TE}{pos:Pos}
variable {tA tB':TT}{yD:List Expr}
end
end L2
namespace L2
section
variable {X:Cx}{pins:List (Addr×Obj)}{σ:St}{H:Hp}{s:Shared}{a:Addr}{xs ys:List V}
end
section
variable {X:Cx}{pins:List (Addr×Obj)}{σ:St}{H:Hp}{s:Shared}{E:af->Shared->Prop}
end
section
variable {X:Cx}{st:Stmt}{yD:List Stmt}{t u:TS}{e:Expr}{te:TE}{pos:Pos}
end
section
variable {X:Cx}{pos:Pos}
end
section
variable {X:Cx}{pos:Pos}
end
end L2
namespace L2
section
variable {X:Cx}{tg:Expr}
end
end L2
namespace L2
section
variable {X:Cx}{a b c:Expr}{ta tb tc:TE}{pos:Pos}
end
section
variable {X:Cx}{a b c:Expr}{ta tb tc:TE}{pos:Pos}
end
end L2
namespace L2
section
variable {prog:Program}{w:aU}{A:bb}{E:af->Shared->Prop}{s:Shared}{K:ag}{x dx C f:Addr}{mA:Str->Option af}{name:Str}{v:af}
end
section
variable {P:Program}{w:aU}{H H':Hp}{h h':Heap}{a C dx:Addr}{fs fs':List (Str×V)}
end
section
variable {X:Cx}{pins:List (Addr×Obj)}{σ:St}{H:Hp}{s:Shared}{a C dx:Addr}{fs:List (Str×V)}{f:Str}{v:V}{A:bb}{E:af->Shared->Prop}
end
section
variable {X:Cx}{o e value:Expr}{f:Str}{pos pos' tpos:Pos}{ta tv:TE}
end
section
variable {X:Cx}{pins:List (Addr×Obj)}{σ:St}{H:Hp}{s:Shared}{A:bb}{E:af->Shared->Prop}{Q:af->Shared->Prop}{c:af}{b:Bool}
end
end L2
namespace L2
section
variable {X:Cx}{e:Expr}{es:List Expr}{te:TE}{t:TA}{pos:Pos}
end
section
variable {X:Cx}{pins:List (Addr×Obj)}{σ:St}{H:Hp}{s s':Shared}
end
section
variable {X:Cx}{CX:CXT}{k:Nat}{f C:Addr}{fd:FuncData}{ps:List Str}{sp:Sp}{dvs:List V}{ds:List af}{E:XK}{x m:Str}{p pos apos:Pos}{e o:Expr}{es:List Expr}{ta:TE}{t:TA}
end
section
variable {X:Cx}{CX:CXT}{k:Nat}{f C:Addr}{fd:FuncData}{ps ks:List Str}{sp:Sp}{E:XK}{x m:Str}{p pos apos kpos:Pos}{e o:Expr}{es:List Expr}{kws:List lS}{te ta:TE}{t tk:TA}{nm:Option Str}
variable {g:List af->List af->List af}{gV:List V->List V->List V}
end
end L2
namespace L2
section
variable {X:Cx}{x:Str}{p pos:Pos}{e:Expr}{es:List Expr}{t:TA}{id T:String}{r:List V->Hp->VK->Prop}
end
end L2
namespace L2
section
variable {κ:Type} [DecidableEq κ]
noncomputable def jP (kvs:List (κ×V)) (k:κ):Option V:=(kvs.find? λkv=>decide (kv.1=k)).map (·.2)
noncomputable def qt (kvs:List (κ×V)) (k:κ) (v:V):List (κ×V) :=
 if (kvs.any λkv=>decide (kv.1=k))=true then kvs.map (λkv=>if kv.1=k then (kv.1,v) else kv) else kvs++[(k,v)]
theorem yw {k:κ}:jP ([]:List (κ×V)) k=none:=rfl
theorem qP {p:κ×V}{r:List (κ×V)}{k:κ}(e:p.1=k):jP (p::r) k=some p.2:=by simp [jP,ef,e]
theorem qN {p:κ×V}{r:List (κ×V)}{k:κ}(e:¬p.1=k):jP (p::r) k=jP r k:=by simp [jP,ef,e]
theorem zX (k:κ):∀kvs:List (κ×V),(kvs.any λkv=>decide (kv.1=k))=(jP kvs k).isSome
 | []=>rfl
 | p::r=>by
  rw [eX]
  by_cases e:p.1=k
  ·simp only [qP e,decide_eq_true e,Bool.true_or,Option.isSome_some]
  ·rw [qN e,decide_eq_false e,Bool.false_or];exact zX k r
theorem Q3 (k j:κ) (y:V):∀kvs:List (κ×V),jP (kvs.map λkv=>if kv.1=k then (kv.1,y) else kv) j=(jP kvs j).map λx=>if j=k then y else x
 | []=>rfl
 | p::r=>by
  have ih:=Q3 k j y r
  rw [aJ]
  by_cases h:p.1=k
  ·rw [if_pos h]
   by_cases e:p.1=j
   ·rw [qP (p:=(p.1,y)) e,qP e,iz,if_pos (e.symm.trans h)]
   ·rw [qN (p:=(p.1,y)) e,qN e,ih]
  ·rw [if_neg h]
   by_cases e:p.1=j
   ·rw [qP (p:=p) e,qP e,iz,if_neg (λz=>h (e.trans z))]
   ·rw [qN (p:=p) e,qN e,ih]
theorem gk (k j:κ) (y:V):∀kvs:List (κ×V),jP kvs k=none->jP (kvs++[(k,y)]) j=if j=k then some y else jP kvs j
 | [],_=>by
  by_cases e:k=j
  ·rw [if_pos e.symm];exact qP (p:=(k,y)) e
  ·rw [if_neg (λz=>e z.symm)];exact qN (p:=(k,y)) e
 | p::r,hn=>by
  rw [List.cons_append]
  have hk:¬p.1=k:=λz=>by rw [qP z] at hn;cases hn
  rw [qN hk] at hn
  have ih:=gk k j y r hn
  by_cases e:p.1=j
  ·rw [qP e,qP e,if_neg (λz=>hk (e.trans z))]
  ·rw [qN e,qN e,ih]
theorem Ye (kvs:List (κ×V)) (k j:κ) (y:V):jP (qt kvs k y) j=if j=k then some y else jP kvs j:=by
 unfold qt
 by_cases a:(kvs.any λkv=>decide (kv.1=k))=true
 ·rw [if_pos a,Q3]
  rw [zX] at a
  by_cases e:j=k
  ·obtain ⟨x,hx⟩:=Option.isSome_iff_exists.mp a
   rw [if_pos e,e,hx,iz,if_pos rfl]
  ·rw [if_neg e]
   cases jP kvs j with
   | none=>rfl
   | some x=>rw [iz,if_neg e]
 ·rw [if_neg a]
  refine gk k j y kvs ?_
  rw [zX] at a
  cases q:jP kvs k with
  | none=>rfl
  | some x=>rw [q] at a;exact (a rfl).elim
theorem zm (kvs:List (κ×V)) (k:κ) (v:V):(qt kvs k v).length<=kvs.length+1:=by
 unfold qt
 split
 ·rw [ah];omega
 ·rw [aq,bj,pQ];omega
theorem zP {kvs:List (κ×V)}{k:κ}(v:V) (h:jP kvs k=none):qt kvs k v=kvs++[(k,v)]:=by
 unfold qt
 rw [zX,h]
 exact if_neg ⋯
theorem yn.isSome_eq {o:Option V}{u:Option af}(r:yn o u):o.isSome=u.isSome:=by
 cases o with
 | none=>cases u with
  | none=>rfl
  | some _=>exact (show False from r).elim
 | some _=>cases u with
  | none=>exact (show False from r).elim
  | some _=>rfl
theorem yn.getD {o:Option V}{u:Option af}{d:V}{d':af}(r:yn o u) (rd:jA d d'):jA (o.getD d) (u.getD d'):=by
 cases o with
 | none=>cases u with
  | none=>exact rd
  | some _=>exact (show False from r).elim
 | some _=>cases u with
  | none=>exact (show False from r).elim
  | some _=>exact r
theorem KV.val {kvs:List (κ×V)}{vs:List (κ×af)}(r:KV kvs vs) (k:κ):yn (jP kvs k) (mU vs k):=by
 unfold KV at r
 induction r with
 | nil=>exact cV
 | @cons p q ps qs h t ih =>
  obtain ⟨h1,h2⟩:=h
  by_cases e:p.1=k
  ·have e':q.1=k:=h1.symm.trans e
   have b:mU (q::qs) k=some q.2:=by simp [mU,ef,e']
   rw [qP e,b];exact h2
  ·have e':¬q.1=k:=λz=>e (h1.trans z)
   have b:mU (q::qs) k=mU qs k:=by simp [mU,ef,e']
   rw [qN e,b];exact ih
theorem KV.any {kvs:List (κ×V)}{vs:List (κ×af)}(r:KV kvs vs) (k:κ):(kvs.any λkv=>decide (kv.1=k))=vs.any λkv=>decide (kv.1=k):=by
 unfold KV at r
 induction r with
 | nil=>rfl
 | cons h t ih=>rw [eX,eX,ih,h.1]
theorem KV.repl {kvs:List (κ×V)}{vs:List (κ×af)}(r:KV kvs vs) (k:κ) {y:V}{u:af}(ry:jA y u) :
  KV (kvs.map λkv=>if kv.1=k then (kv.1,y) else kv) (vs.map λkv=>if kv.1=k then (kv.1,u) else kv):=by
 unfold KV at r ⊢
 induction r with
 | nil=>exact .nil
 | @cons p q ps qs h t ih =>
  rw [aJ,aJ]
  refine .cons ?_ ih
  obtain ⟨h1,h2⟩:=h
  by_cases e:p.1=k
  ·rw [if_pos e,if_pos (h1.symm.trans e)];exact ⟨h1,ry⟩
  ·rw [if_neg e,if_neg (λz=>e (h1.trans z))];exact ⟨h1,h2⟩
theorem KV.put {kvs:List (κ×V)}{vs:List (κ×af)}(r:KV kvs vs) (k:κ) {y:V}{u:af}(ry:jA y u):KV (qt kvs k y) (sH vs k u):=by
 unfold qt sH
 rw [r.any k]
 by_cases e:(vs.any λkv=>decide (kv.1=k))=true
 ·rw [if_pos e,if_pos e];exact r.repl k ry
 ·rw [if_neg e,if_neg e];exact cP r ⟨rfl,ry⟩
theorem KV.length {kvs:List (κ×V)}{vs:List (κ×af)}(r:KV kvs vs):kvs.length=vs.length:=aX r
end
theorem wR {P:Program}{w:aU}{k:Key}{u:af}(r:jA (kV k) u):(jC P w).is k u=true:=by
 cases k with
 | inl i=>obtain ⟨t,e⟩:=(show ∃t,u=lB i t from r);subst e;exact Qr P w i t
 | inr x=>obtain ⟨t,e⟩:=(show ∃t,u=mR x t from r);subst e;exact Qt P w x t
theorem gz {P:Program}{w:aU}:∀{ks:List Key}{us:List af},jz (ks.map kV) us->ItemsAre (jC P w) ks us
 | [],_,r=>by rw [eR] at r;cases r;exact .nil
 | k::ks,_,r=>by
  rw [aJ] at r
  cases r with
  | cons h t=>exact .cons (wR h) (gz t)
noncomputable abbrev KT (H:Hp):List (List Key×V)->List (List Key×Addr×af)->Prop:=cO λp q=>p.1=q.1/\H q.2.1=some (.tup (p.1.map kV))/\jA p.2 q.2.2
theorem KT.val {H:Hp}{kvs:List (List Key×V)}{xs:List (List Key×Addr×af)}(r:KT H kvs xs) (k:List Key):yn (jP kvs k) ((pK xs k).map (·.2)):=by
 induction r with
 | nil=>exact cV
 | @cons p q ps qs h t ih =>
  obtain ⟨h1,_,h2⟩:=h
  by_cases e:p.1=k
  ·have e':q.1=k:=h1.symm.trans e
   have b:pK (q::qs) k=some q.2:=by simp [pK,ef,e']
   rw [qP e,b];exact h2
  ·have e':¬q.1=k:=λz=>e (h1.trans z)
   have b:pK (q::qs) k=pK qs k:=by simp [pK,ef,e']
   rw [qN e,b];exact ih
theorem KT.repl {H:Hp}{kvs:List (List Key×V)}{xs:List (List Key×Addr×af)}(r:KT H kvs xs) (k:List Key) {y:V}{u:af}(ry:jA y u) :
  KT H (kvs.map λkv=>if kv.1=k then (kv.1,y) else kv) (xs.map (putAt k u)):=by
 induction r with
 | nil=>exact .nil
 | @cons p q ps qs h t ih =>
  rw [aJ,aJ]
  refine .cons ?_ ih
  obtain ⟨h1,h2,h3⟩:=h
  unfold putAt
  by_cases e:p.1=k
  ·rw [if_pos e,if_pos (h1.symm.trans e)];exact ⟨h1,h2,ry⟩
  ·rw [if_neg e,if_neg (λz=>e (h1.trans z))];exact ⟨h1,h2,h3⟩
theorem KT.put {H:Hp}{kvs:List (List Key×V)}{xs:List (List Key×Addr×af)}(r:KT H kvs xs) (k:List Key) {b:Addr}{y:V}{u:af}(hb:H b=some (.tup (k.map kV))) (ry:jA y u) :
  KT H (qt kvs k y) (storedH xs k b u):=by
 have e:(kvs.any λkv=>decide (kv.1=k))=(pK xs k).isSome:=by
  rw [zX,(r.val k).isSome_eq,oG]
 unfold qt storedH
 rw [e]
 by_cases q:(pK xs k).isSome=true
 ·rw [if_pos q,if_pos q];exact r.repl k ry
 ·rw [if_neg q,if_neg q];exact cP r ⟨rfl,hb,ry⟩
theorem KT.keeps {H H':Hp}{kvs:List (List Key×V)}{xs:List (List Key×Addr×af)}(r:KT H kvs xs) (ht:∀b ys,H b=some (.tup ys)->H' b=some (.tup ys)):KT H' kvs xs :=
 Paired.mapP r λ_ _ z=>⟨z.1,ht _ _ z.2.1,z.2.2⟩
section
variable {P:Program}{w:aU}{H:Hp}{h:Heap}{a:Addr}
theorem Ut {u:HO}(ok:HOk P w H h) (e:Rd H a u):jW P w H h a u:=e.ok ok
theorem uI {kvs:List (Key×V)}(ok:HOk P w H h) (e:Rd H a (.dK kvs)):kvs.length<=sizeLine/\(a == df)=false/\∃vs,KV kvs vs/\h.DictOf (jC P w) a vs :=
 show jW P w H h a (.dK kvs) from Ut ok e
theorem Yq {kvs:List (Key×V)}(ok:HOk P w H h) (e:H a=some (.dK kvs)):kvs.length<=sizeLine/\(a == df)=false/\∃vs,KV kvs vs/\h.DictOf (jC P w) a vs:=uI ok (.inl e)
theorem wg {ks:List Key}(ok:HOk P w H h) (e:H a=some (.tup (ks.map kV))):(iH (jC P w)).is h ks a:=by
 obtain ⟨_,its,r,o,h1,h2,n,h3⟩:=(show jW P w H h a (.tup (ks.map kV)) from ok a _ e)
 exact ⟨o,its.toArray,n,h1,h2,h3,by simpa using gz r⟩
theorem gK {kvs:List (List Key×V)}(ok:HOk P w H h) (e:Rd H a (.dT kvs)):kvs.length<=sizeLine/\(a == df)=false /\
  ∃xs,KT H kvs xs/\h.DictOfH (iH (jC P w)) a xs:=by
 obtain ⟨z,y,xs,r,o,es,ep,h1,h2,h3,h4,h5⟩:=(show jW P w H h a (.dT kvs) from Ut ok e)
 refine ⟨z,y,xs,r,o,es,ep,h1,h2,h3,h4,λx hx=>?_,h5⟩
 have all:∀{l:List (List Key×V)} {m:List (List Key×Addr×af)},KT H l m->∀x∈m,(iH (jC P w)).is h x.1 x.2.1:=by
  intro l m q
  induction q with
  | nil=>intro x hx;exact nomatch hx
  | @cons p q ps qs hq t ih =>
   intro x hx
   rcases List.mem_cons.mp hx with e | hx
   ·subst e
    exact wg ok (by rw [<- hq.1];exact hq.2.1)
   ·exact ih x hx
 exact all r x hx
theorem GA {kvs:List (List Key×V)}(ok:HOk P w H h) (e:H a=some (.dT kvs)):kvs.length<=sizeLine/\(a == df)=false /\
  ∃xs,KT H kvs xs/\h.DictOfH (iH (jC P w)) a xs:=gK ok (.inl e)
end
noncomputable def xo (H:Hp) (a:Addr) (y:V) (r:Option V):Prop :=
 (∃kvs k,Rd H a (.dK kvs)/\y=kV k/\r=jP kvs k)\/∃kvs k b,Rd H a (.dT kvs)/\y = .ref b/\H b=some (.tup (k.map kV))/\r=jP kvs k
noncomputable def vn (H:Hp) (a:Addr) (y v:V) (H':Hp):Prop :=
 (∃kvs k,H a=some (.dK kvs)/\y=kV k/\kvs.length<sizeLine/\H'=upd H a (.dK (qt kvs k v))) \/
 ∃kvs k b,H a=some (.dT kvs)/\y = .ref b/\H b=some (.tup (k.map kV))/\kvs.length<sizeLine/\H'=upd H a (.dT (qt kvs k v))
theorem xo.k {H:Hp}{a:Addr}{kvs:List (Key×V)}{k:Key}(e:H a=some (.dK kvs)):xo H a (kV k) (jP kvs k):=.inl ⟨kvs,k,.inl e,rfl,rfl⟩
theorem vn.k {H:Hp}{a:Addr}{kvs:List (Key×V)}{k:Key}{v:V}(e:H a=some (.dK kvs)) (hl:kvs.length<sizeLine):vn H a (kV k) v (upd H a (.dK (qt kvs k v))):=.inl ⟨kvs,k,e,rfl,hl,rfl⟩
theorem vn.t {H:Hp}{a b:Addr}{kvs:List (List Key×V)}{k:List Key}{v:V}(e:H a=some (.dT kvs)) (eb:H b=some (.tup (k.map kV))) (hl:kvs.length<sizeLine) :
  vn H a (.ref b) v (upd H a (.dT (qt kvs k v))):=.inr ⟨kvs,k,b,e,rfl,eb,hl,rfl⟩
section
variable {X:Cx}{pins:List (Addr×Obj)}{σ:St}{H:Hp}{s:Shared}{a:Addr}{y v:V}{u r:af}{o:Option V}{A:bb}{E:af->Shared->Prop}
theorem Inv.big (I:Inv X pins σ H s):df<s.heap.objs.size:=by
 have h:mainGlobals<s.heap.objs.size:=(I.mod.glob.keeps I.bk).lt
 exact Nat.lt_trans ⋯ h
theorem Zo {Q:af->Shared->Prop}(hu:A.units+1<cLine) (I:Inv X pins σ H s) (g:xo H a y (some v)) (ry:jA y u) (h:∀w' s',Inv X pins σ H s'->jA v w'->Q w' s') :
  au (aC X.prog X.w) A (iE (.ref a) u) Q E s:=by
 rcases g with ⟨kvs,k,e,ey,l⟩ | ⟨kvs,k,b,e,ey,eb,l⟩
 ·subst ey
  obtain ⟨z,hd,vs,rel,dd⟩:=uI I.hok e
  obtain ⟨w',hw,rw'⟩:=yn.some_of (v:=v) (o:=mU vs k) (by rw [l];exact rel.val k)
  exact wpAny_getItem_of (wR ry) dd.mapOf hw (h w' _ (I.tok _) rw')
 ·subst ey
  cases (show u=aQ b from ry)
  obtain ⟨z,hd,xs,rel,dd⟩:=gK I.hok e
  obtain ⟨w',hw,rw'⟩:=yn.some_of (v:=v) (o:=(pK xs k).map (·.2)) (by rw [l];exact rel.val k)
  obtain ⟨p,hp,hp2⟩:=Option.map_eq_some_iff.mp hw
  refine wpAny_getItem_heap (fh hu) (wg I.hok eb) dd hp ?_
  rw [hp2]
  exact h w' _ (I.tok _) rw'
theorem d_in {Q:af->Shared->Prop}(hu:A.units+1<cLine) (I:Inv X pins σ H s) (g:xo H a y o) (ry:jA y u) (h:∀s',Inv X pins σ H s'->Q (.bool o.isSome) s') :
  au (aC X.prog X.w) A (c5 .In u (.ref a)) Q E s:=by
 rcases g with ⟨kvs,k,e,ey,l⟩ | ⟨kvs,k,b,e,ey,eb,l⟩
 ·subst ey
  obtain ⟨z,hd,vs,rel,dd⟩:=uI I.hok e
  refine wpAny_in_of (wR ry) hd dd.mapOf ?_
  rw [<- (rel.val k).isSome_eq,<- l]
  exact h _ (I.tok _)
 ·subst ey
  cases (show u=aQ b from ry)
  obtain ⟨z,hd,xs,rel,dd⟩:=gK I.hok e
  refine wpAny_in_heap (fh hu) (wg I.hok eb) hd dd ?_
  have q:=(rel.val k).isSome_eq
  rw [oG] at q
  rw [<- q,<- l]
  exact h _ (I.tok _)
theorem J4 {h':Heap}{t':Nat}{ob:HO}(I:Inv X pins σ H s) (mu:Mut (H a)) (hs:cw a s.heap h') (he:∃q,h'.get? a=some q) (new:jW X.prog X.w (upd H a ob) h' a ob) :
  Inv X pins σ (upd H a ob) { s with heap:=h',toks:=t' } :=
 I.write (x:=a) (e:=a) mu (.inl rfl) (λb q hb z=>(hs.2 b hb).trans z) he new
theorem QV {P:Program}{w:aU}{H':Hp}{h':Heap}{kvs:List (Key×V)}{vs:List (Key×af)}(z:kvs.length<=sizeLine) (hd:(a == df)=false) (rel:KV kvs vs) (dd:h'.DictOf (jC P w) a vs) :
  jW P w H' h' a (.dK kvs):=⟨z,hd,vs,rel,dd⟩
theorem ZH {H':Hp}{Q:Unit->Shared->Prop}(hu:A.units+1<cLine) (I:Inv X pins σ H s) (g:vn H a y v H') (ry:jA y u) (rv:jA v r) (h:∀s',Inv X pins σ H' s'->Q () s') :
  au (aC X.prog X.w) A (setItem (.ref a) u r) Q E s:=by
 rcases g with ⟨kvs,k,e,ey,l,eH⟩ | ⟨kvs,k,b,e,ey,eb,l,eH⟩
 ·subst ey eH
  obtain ⟨z,hd,vs,rel,dd⟩:=Yq I.hok e
  have hz:vs.length<=sizeLine:=by rw [<- rel.length];exact z
  have hl:(qt kvs k v).length<=sizeLine:=by have:=zm kvs k v;omega
  refine wpAny_setItem_pairs (hsz:=hz) (wR ry) dd λh' dd' hs=>h _ ?_
  have he:∃q,h'.get? a=some q:=let ⟨q,_,_,hq,_⟩:=dd';⟨q,hq⟩
  exact J4 I (by rw [e];exact cV) hs he (QV hl hd (rel.put k rv) dd')
 ·subst ey eH
  cases (show u=aQ b from ry)
  obtain ⟨z,hd,xs,rel,dd⟩:=GA I.hok e
  have hz:xs.length<=sizeLine:=by rw [<- aX rel];exact z
  have hl:(qt kvs k v).length<=sizeLine:=by have:=zm kvs k v;omega
  refine wpAny_setItem_heap (hsz:=hz) (fh hu) (wg I.hok eb) dd λh' dd' hs=>h _ ?_
  obtain ⟨q,es,ep,hq,h2,h3,h4,_,h5⟩:=dd'
  refine J4 I (by rw [e];exact cV) hs ⟨q,hq⟩ ⟨hl,hd,_,(rel.put k eb rv).keeps λc ys ec=>?_,q,es,ep,hq,h2,h3,h4,h5⟩
  rw [j6 (ji ec e (λz=>nomatch z))]
  exact ec
end
section
variable {X:Cx}{pins:List (Addr×Obj)}{σ:St}{H:Hp}{s:Shared}{a:Addr}{kvs:List (Key×V)}{k:Key}{u:af}{A:bb}{E:af->Shared->Prop}
end
noncomputable def Gw (i:Expr):Prop:=∀ov iv,mC i false ov iv=operate [ov,iv] (iE ov iv)
theorem Ug {prog:Program}{w:aU}{A:bb}{E:af->Shared->Prop}{s:Shared}{env:Env}{value slice:Expr}{pos:Pos}{T id:String}{Q:af->Shared->Prop}
  (hl:rE (.type T) "__getitem__" = pure (some (.builtin id))) (hs:Gw slice)
  (h:au (aC prog w) A (eval value env) (λo s₁=>au (aC prog w) A (eval slice env) (λi s₂=>s₂.TypeIs o T/\au (aC prog w) A (iE o i) Q E s₂) E s₁) E s) :
  au (aC prog w) A (eval (.Subscript value slice pos) env) Q E s:=by
 refine lV (b7 h (λo s₁ h₁=>b7 h₁ (λi s₂ h₂=>?_) λ_ _ x=>x) λ_ _ x=>x)
 obtain ⟨hT,h₂⟩:=h₂
 unfold i6
 refine aa ?_
 rw [getitemInPython_of_ne hT.not_modules]
 refine aa (wpAny_specialOf hT hl ?_)
 have fin:au (aC prog w) A (mC slice false o i) (λr s₃=>au (aC prog w) A (letTemporaryGo value o r >>= λ_=>pure r) Q E s₃) E s₂:=by
  rw [hs o i]
  exact wpAny_operating (b7 h₂ (λr s₃ h₃=>aa (wpAny_letTemporaryGo (wpAny_pure h₃))) λ_ _ x=>x)
 first
  | exact wpAny_pure (aa fin)
  | exact aa (wpAny_pure (aa fin))
  | exact aa fin
theorem Jz {X:Cx}{pins:List (Addr×Obj)}{σ:St}{H:Hp}{s:Shared}{a:Addr}{y:V}{o:Option V}(I:Inv X pins σ H s) (g:xo H a y o):s.TypeIs (.ref a) "dict":=by
 rcases g with ⟨kvs,k,e,_,_⟩ | ⟨kvs,k,b,e,_,_,_⟩
 ·obtain ⟨_,_,vs,_,dd⟩:=uI I.hok e
  exact dd.typeIs
 ·obtain ⟨_,_,xs,_,dd⟩:=gK I.hok e
  exact dd.typeIs
noncomputable def Uu (td ty:TE):TE:=λσ H Q=>td σ H λx H1=>ty σ H1 λy H2=>∃a v,x = .ref a/\xo H2 a y (some v)/\Q v H2
noncomputable def tDIn (ty td:TE):TE:=λσ H Q=>ty σ H λy H1=>td σ H1 λx H2=>∃a o,x = .ref a/\xo H2 a y o/\Q (.bl o.isSome) H2
noncomputable def G5 (td ty tv:TE):TS:=λD σ H=>tv σ H λv H1=>td σ H1 λx H2=>ty σ H2 λy H3=>∃a H4,x = .ref a/\vn H3 a y v H4/\D.nx σ H4
section
variable {X:Cx}{o i e value:Expr}{pos pos' tpos:Pos}{td ty tv:TE}
theorem jI (hu:X.A.units+1<cLine) (ho:PE X o td) (hi:PE X i ty) (hs:Gw i):PE X (.Subscript o i pos) (Uu td ty):=by
 intro pins s σ H Q I h
 refine Ug PySem.F.slot_dict_getitem.lookup hs (thn (ho pins s σ H _ I h) λu s1 ⟨x,H1,I1,rx,q1⟩=>thn (hi pins s1 σ H1 _ I1 q1) λiv s2 ⟨y,H2,I2,ry,a,v,ex,g,q2⟩=>?_)
 subst ex
 obtain rfl:u=aQ a:=rx
 exact ⟨Jz I2 g,Zo hu I2 g ry λw' s3 I3 rw'=>⟨v,H2,I3,rw',q2⟩⟩
theorem US (hu:X.A.units+1<cLine) (hi:PE X i ty) (ho:PE X o td):PC X .In i o (tDIn ty td):=by
 intro pins s σ H Q I h
 refine thn (hi pins s σ H _ I h) λiv s1 ⟨y,H1,I1,ry,q1⟩=>thn (ho pins s1 σ H1 _ I1 q1) λu s2 ⟨x,H2,I2,rx,a,ov,ex,g,q2⟩=>?_
 subst ex
 obtain rfl:u=aQ a:=rx
 exact d_in hu I2 g ry λs3 I3=>⟨.bl ov.isSome,H2,I3,rfl,q2⟩
theorem xY (hu:X.A.units+1<cLine) (ho:PE X o td) (hi:PE X i ty) (hv:PE X value tv) (hs:iI value (some (.Subscript o i pos')) pos.line X.env=pure false) :
  PS X (.Assign [.Subscript o i pos'] value pos) (G5 td ty tv):=by
 intro pins s σ H D I h
 refine wpAny_Assign_Subscript (thn (hv pins s σ H _ I h) λr s1 ⟨v,H1,I1,rv,q1⟩=>thn (ho pins s1 σ H1 _ I1 q1) λu s2 ⟨x,H2,I2,rx,q2⟩=>thn (hi pins s2 σ H2 _ I2 q2) λiv s3 ⟨y,H3,I3,ry,a,H4,ex,g,q3⟩=>?_) hs
 subst ex
 obtain rfl:u=aQ a:=rx
 exact ZH hu I3 g ry rv λs4 I4=>⟨σ,H4,I4,q3⟩
end
theorem JC {P:Program}{w:aU}{H:Hp}(h:Heap) (hb:df<h.objs.size):jW P w H (h.push { cls:=.type "dict",data:=.dict #[] }) h.objs.size (.dK []) :=
 ⟨aE _,beq_eq_false_iff_ne.mpr (cq (aB hb)),[],.nil,pR h⟩
theorem Yw {P:Program}{w:aU}{H:Hp}(h:Heap) (hb:df<h.objs.size):jW P w H (h.push { cls:=.type "dict",data:=.dict #[] }) h.objs.size (.dT []) :=
 ⟨aE _,beq_eq_false_iff_ne.mpr (cq (aB hb)),[],.nil,_,#[],0,az _ rfl,⟨rfl,rfl,rfl⟩,rfl,rfl,fN⟩
noncomputable def W5:TE:=λ_ H Q=>∀p,H p=none->Q (.ref p) (upd H p (.dK []))
noncomputable def WG:TE:=λ_ H Q=>∀p,H p=none->Q (.ref p) (upd H p (.dT []))
section
variable {X:Cx}{pos:Pos}
theorem zM:PE X (.Dict [] [] pos) W5:=λpins s σ H Q I h =>
 pj ⟨.ref s.heap.objs.size,_,I.laid (a:=s.heap.objs.size) (o:=.dK []) (t':=s.toks) (λ_ _ q=>ai _ q) (ao _) (JC s.heap I.big),rfl,h _ (I.hok.fresh (ao _))⟩
theorem YE:PE X (.Dict [] [] pos) WG:=λpins s σ H Q I h =>
 pj ⟨.ref s.heap.objs.size,_,I.laid (a:=s.heap.objs.size) (o:=.dT []) (t':=s.toks) (λ_ _ q=>ai _ q) (ao _) (Yw s.heap I.big),rfl,h _ (I.hok.fresh (ao _))⟩
end
noncomputable def Xu:List (TE×TE)->St->Hp->(List (V×V)->Hp->Prop)->Prop
 | [],_,H,Q=>Q [] H
 | (tk,tv)::r,σ,H,Q=>tk σ H λx H1=>tv σ H1 λy H2=>Xu r σ H2 λps H3=>Q ((x,y)::ps) H3
noncomputable abbrev VV:List (V×V)->List (af×af)->Prop:=cO λp q=>jA p.1 q.1/\jA p.2 q.2
noncomputable def PPs (X:Cx) (pos:Pos) (keys:List (Option Expr)) (values:List Expr) (trs:List (TE×TE)):Prop :=
 ∀(pins:List (Addr×Obj)) (s:Shared) (σ:St) (H:Hp) (Q:List (V×V)->Hp->Prop),Inv X pins σ H s->Xu trs σ H Q ->
  au (aC X.prog X.w) X.A (evalPairs (pairTrees keys values X.env pos)) (λvs s'=>∃ps H',Inv X pins σ H' s'/\VV ps vs/\Q ps H') X.xe s
theorem VJ {X:Cx}{pos:Pos}:PPs X pos [] [] []:=λpins s σ H Q I h=>pairTrees_nil_walk ⟨[],H,I,.nil,h⟩
theorem ww {X:Cx}{pos:Pos}{k v:Expr}{ks:List (Option Expr)}{vs:List Expr}{tk tv:TE}{trs:List (TE×TE)}(hk:PE X k tk) (hv:PE X v tv) (hr:PPs X pos ks vs trs) :
  PPs X pos (some k::ks) (v::vs) ((tk,tv)::trs):=λpins s σ H Q I h =>
 pairTrees_cons_walk (thn (hk pins s σ H _ I h) λu s1 ⟨x,H1,I1,rx,q1⟩=>thn (hv pins s1 σ H1 _ I1 q1) λw2 s2 ⟨y,H2,I2,ry,q2⟩ =>
  thn (hr pins s2 σ H2 _ I2 q2) λws s3 ⟨ps,H3,I3,rel,q3⟩=>⟨(x,y)::ps,H3,I3,.cons ⟨rx,ry⟩ rel,q3⟩)
noncomputable def x4 (kvs more:List (Key×V)):List (Key×V):=more.foldl (λacc kv=>qt acc kv.1 kv.2) kvs
theorem KV.merge:∀{more:List (Key×V)}{rs:List (Key×af)}{kvs:List (Key×V)}{vs:List (Key×af)},KV more rs->KV kvs vs->KV (x4 kvs more) (merged vs rs):=by
 intro more rs kvs vs r
 unfold KV at r
 induction r generalizing kvs vs with
 | nil=>intro q;exact q
 | @cons p q ps qs h t ih =>
  intro r0
  have e:KV (qt kvs p.1 p.2) (sH vs q.1 q.2):=by
   have:=r0.put p.1 h.2
   rw [<- h.1];exact this
  exact ih e
theorem zG:∀(more kvs:List (Key×V)),(x4 kvs more).length<=kvs.length+more.length
 | [],kvs=>by show kvs.length<=kvs.length+0;omega
 | p::r,kvs=>by
  have h1:=zG r (qt kvs p.1 p.2)
  have h2:=zm kvs p.1 p.2
  show (x4 (qt kvs p.1 p.2) r).length<=_
  rw [bj];omega
theorem wE {P:Program}{w:aU}:∀{kvs:List (Key×V)}{ws:List (af×af)},VV (kvs.map λkv=>(kV kv.1,kv.2)) ws->∃rs,Carries (jC P w) ws rs/\KV kvs rs
 | [],_,r=>by rw [eR] at r;cases r;exact ⟨[],cV,.nil⟩
 | p::kvs,_,r=>by
  rw [aJ] at r
  cases r with
  | @cons a b as bs h t =>
   obtain ⟨rs,c,q⟩:=wE (P:=P) (w:=w) t
   obtain ⟨b1,b2⟩:=b
   exact ⟨(p.1,b2)::rs,⟨wR h.1,rfl,c⟩,.cons ⟨rfl,h.2⟩ q⟩
noncomputable def WS (trs:List (TE×TE)):TE:=λσ H Q=>∀p,H p=none->Xu trs σ (upd H p (.dK [])) λps H2=>H2 p=some (.dK [])/\∃kvs:List (Key×V),ps=kvs.map (λkv=>(kV kv.1,kv.2))/\kvs.length<=15/\Q (.ref p) (upd H2 p (.dK (x4 [] kvs)))
theorem U9 {X:Cx}{pos:Pos}{keys:List (Option Expr)}{values:List Expr}{trs:List (TE×TE)}(h:PPs X pos keys values trs) (hall:keys.all (·.isSome)=true) (hl:keys.length=values.length) (h0:keys≠[])
  (h15:keys.length<=15):PE X (.Dict keys values pos) (WS trs):=by
 intro pins s σ H Q I q
 have hn:=I.hok.fresh (ao s.heap.objs.size)
 have I1:=I.laid (a:=s.heap.objs.size) (o:=.dK []) (h':=s.heap.push { cls:=.type "dict",data:=.dict #[] }) (t':=s.toks) (λ_ _ q=>ai _ q) (ao _) (JC s.heap I.big)
 refine wpAny_Dict_walk (knd:=jC X.prog X.w) hall hl h0 h15 (thn (h pins _ σ _ _ I1 (q _ hn)) λws s2 ⟨ps,H2,I2,rel,e,kvs,ep,lk,q2⟩=>?_)
 subst ep
 obtain ⟨rs,c,rk⟩:=wE (P:=X.prog) (w:=X.w) rel
 obtain ⟨z,hd,vs0,r0,dd⟩:=Yq I2.hok e
 cases r0
 refine ⟨rs,c,dd,λh' dd' hs=>⟨.ref s.heap.objs.size,_,?_,rfl,q2⟩⟩
 have hz:(x4 [] kvs).length<=sizeLine:=by
  have h1:=zG kvs []
  rw [pQ] at h1
  rw [bt];omega
 have he:∃q,h'.get? s.heap.objs.size=some q:=let ⟨q,_,_,hq,_⟩:=dd';⟨q,hq⟩
 exact J4 I2 (by rw [e];exact cV) hs he (QV hz hd (rk.merge .nil) dd')
structure M2 (X:Cx) (o:Expr) (m:Str) (apos:Pos) (e f:Expr) (cpos:Pos):Prop where
 base:dA o m X.env (eval o X.env)=eval o X.env
 few:((cF cpos (aK [e,f] X.env)).all (λx=>!x.1) && (iM cpos (eK [] X.env)).all (λx=>x.1.isSome)
  && decide (([e,f]:List Expr).length+([]:List lS).length+(if ([]:List lS).isEmpty then 0 else 1)<30))=true
 line:(apos.endLine == cpos.line)=true
 trees:cF cpos (aK [e,f] X.env)=[(false,eval e X.env),(false,eval f X.env)]
noncomputable def IsD (H:Hp) (a:Addr):Prop:=(∃kvs,Rd H a (.dK kvs))\/∃kvs,Rd H a (.dT kvs)
theorem UJ {X:Cx}{pins:List (Addr×Obj)}{σ:St}{H:Hp}{s:Shared}{a:Addr}(I:Inv X pins σ H s) (d:IsD H a) :
  s.TypeIs (.ref a) "dict" /\ (∀b,aQ a = .ref b->∃ob,s.heap.get? b=some ob/\ob.dict=none)/\(a == df)=false:=by
 rcases d with ⟨kvs,e⟩ | ⟨kvs,e⟩
 ·obtain ⟨_,hd,vs,_,dd⟩:=uI I.hok e
  refine ⟨dd.typeIs,λb q=>?_,hd⟩
  cases q
  obtain ⟨ob,_,_,h1,h2,_⟩:=dd
  exact ⟨ob,h1,h2.2.1⟩
 ·obtain ⟨_,hd,xs,_,dd⟩:=gK I.hok e
  refine ⟨dd.typeIs,λb q=>?_,hd⟩
  cases q
  obtain ⟨ob,_,_,h1,h2,_⟩:=dd
  exact ⟨ob,h1,h2.2.1⟩
section
variable {X:Cx}{pins:List (Addr×Obj)}{σ:St}{H:Hp}{s:Shared}{a:Addr}{y d:V}{u r:af}{o:Option V}{A:bb}{E:af->Shared->Prop}
theorem Wj {Q:af->Shared->Prop}(hu:A.units+1<cLine) (I:Inv X pins σ H s) (g:xo H a y o) (ry:jA y u) (rd:jA d r) (h:∀w' s',Inv X pins σ H s'->jA (o.getD d) w'->Q w' s') :
  au (aC X.prog X.w) A (call (.builtin "dict.get") [.ref a,u,r]) Q E s:=by
 rcases g with ⟨kvs,k,e,ey,l⟩ | ⟨kvs,k,b,e,ey,eb,l⟩
 ·subst ey
  obtain ⟨z,hd,vs,rel,dd⟩:=uI I.hok e
  refine call_meetsIn fT dd.typeIs m7 (lL _ _ _) (meets_dict_get_default (jC X.prog X.w) a (wR ry) hd r) ⟨_,dd.mapOf,h _ _ (I.tok _) ?_⟩
  rw [l]
  exact (rel.val k).getD rd
 ·subst ey
  cases (show u=aQ b from ry)
  obtain ⟨z,hd,xs,rel,dd⟩:=gK I.hok e
  refine call_meetsIn fT dd.typeIs m7 (lL _ _ _) (meetsH_dict_get_default (iH (jC X.prog X.w)) a b hd r) ⟨fh hu,k,xs,wg I.hok eb,dd,h _ _ (I.tok _) ?_⟩
  rw [l]
  exact (rel.val k).getD rd
end
noncomputable def Wh (td ty tx:TE):TE:=λσ H Q=>td σ H λx H1=>∃a,x = .ref a/\IsD H1 a/\ty σ H1 λy H2=>tx σ H2 λz H3=>∃o,xo H3 a y o/\Q (o.getD z) H3
section
variable {X:Cx}{o e f:Expr}{apos cpos:Pos}{td ty tx:TE}
theorem kg (hu:X.A.units+1<cLine) (ho:PE X o td) (he:PE X e ty) (hf:PE X f tx) (m:M2 X o "get" apos e f cpos):PE X (.Call (.Attribute o "get" apos) [e,f] [] cpos) (Wh td ty tx):=by
 intro pins s σ H Q I h
 refine wpAny_Call_method m.base m.few m.line PySem.F.plainAttrs_dict fT PySem.F.type_dict_get (thn (ho pins s σ H _ I h) λu s1 ⟨x,H1,I1,rx,a,ex,d,q1⟩=>?_)
 subst ex
 obtain rfl:u=aQ a:=rx
 obtain ⟨t1,t2,_⟩:=UJ I1 d
 refine ⟨t1,t2,?_⟩
 rw [m.trees]
 refine fH rfl (ib (iN (thn (he pins s1 σ H1 _ I1 q1) λiv s2 ⟨y,H2,I2,ry,q2⟩ =>
  iN (thn (hf pins s2 σ H2 _ I2 q2) λfv s3 ⟨z,H3,I3,rz,ov,g,q3⟩=>oh ?_))))
 exact Wj hu I3 g ry rz λw' s4 I4 rw'=>⟨_,H3,I4,rw',q3⟩
end
section
variable {X:Cx}{pins:List (Addr×Obj)}{σ:St}{H:Hp}{s:Shared}{a:Addr}{kvs:List (Key×V)}{A:bb}{E:af->Shared->Prop}
end
section
variable {X:Cx}{pins:List (Addr×Obj)}{σ:St}{H:Hp}{s:Shared}{a:Addr}{y:V}{u:af}{A:bb}{E:af->Shared->Prop}
end
end L2
namespace Att
open PySem PySem.W PySem.Calls PyProof.Rows
section
variable {prog:Program}{w:aU}{A:bb}{E:af->Shared->Prop}{s:Shared}{K:Frag}
end
end Att
namespace L2
end L2
namespace L2
end L2
namespace L2
section
variable {P:Program}{w:aU}{K:ag}{mg:Str->Option af}{base:Heap}
end
section
variable {X:Cx}
end
section
variable {κ:Type} [DecidableEq κ]
theorem uY:∀{l:List κ}{k:κ},l.Nodup->¬k∈l->(l++[k]).Nodup
 | [],k,_,_=>by simp
 | a::r,k,h,hk=>by
  obtain ⟨h1,h2⟩:=List.nodup_cons.mp h
  show (a::(r++[k])).Nodup
  refine List.nodup_cons.mpr ⟨λm=>?_,uY h2 λm=>hk (List.mem_cons.mpr (fW m))⟩
  rcases List.mem_append.mp m with q | q
  ·exact h1 q
  ·exact hk (List.mem_cons.mpr (aP (List.mem_singleton.mp q).symm))
end
end L2
end
section
namespace L2
open PySem.W
section
variable {prog:Program}{w:aU}{A:bb}{E:af->Shared->Prop}{s:Shared}
theorem JN {its:List af}{κ:rK}{lt:Nat->Nat->Bool}{G:List Nat->Prop}{Q:af->Shared->Prop}(h64:its.length<64)
  (hk:2<=its.length->∀h',(∀b o,s.heap.get? b=some o->h'.get? b=some o)->∀Q':rK->Shared->Prop,Q' κ { s with heap:=h' }->au (aC prog w) A.in1.in1 (keyKind' its.toArray) Q' (λ_ _=>False) { s with heap:=h' })
  (hc:∀h',(∀b o,s.heap.get? b=some o->h'.get? b=some o)->∀i j,i<its.length->j<its.length->∀Q':Bool->Shared->Prop,Q' (lt i j) { s with heap:=h' } ->
   au (aC prog w) A.in1.in1 (keyLt' κ (its.getD i aS) (its.getD j aS)) Q' (λ_ _=>False) { s with heap:=h' })
  (hs:2<=its.length->qX lt its.length (sU its.length) λp=>qj its.length p/\G p.toList) (h1:its.length<2->G (aF its.length))
  (h:∀(ix:List Nat) (h':Heap) (n:Nat),ix.Perm (aF its.length)->G ix->(∀b o,s.heap.get? b=some o->h'.get? b=some o) ->
   h'.get? (s.heap.objs.size)=some (bo "list" (ix.map λi=>its.getD i aS).toArray n)->Q (.ref (s.heap.objs.size)) { s with heap:=h' }) :
  au (aC prog w) A.in1 (pW its >>= λl=>fe [l] (call (.builtin "list.sort") [l] []) >>= λ_=>ret l) (λfin s'=>∃v,fin = .done (.ret v)/\Q v s') E s:=by
 refine aa (fb ?_ (by rw [bt];omega))
 have ho:(s.heap.push (bo "list" its.toArray 0)).get? (s.heap.objs.size)=some (bo "list" its.toArray 0):=az _ rfl
 have keep:∀b o,s.heap.get? b=some o->(s.heap.push (bo "list" its.toArray 0)).get? b=some o:=λb o q=>by
  exact ai _ q
 show au _ _ _ _ _ { s with heap:=s.heap.push (bo "list" its.toArray 0) }
 refine aa (bN (cI mF ⟨_,ho,rfl⟩ me ?body (rN _)))
 case body =>
  generalize hh0:s.heap.push (bo "list" its.toArray 0)=h0 at ho keep
  generalize ha:s.heap.objs.size=a at ho h
  have aNew:∀b o,s.heap.get? b=some o->b≠a:=λb o q=>by have:=ay q;rw [<- ha];exact aB this
  show au (aC prog w) A.in1.in1 (dO.«list.sort» ⟨[.ref a],[]⟩) _ _ { s with heap:=h0 }
  rw [pL]
  have hal:a<h0.objs.size:=ay ho
  refine aa (lZ ho rfl ?_)
  refine aa (cM ho rfl ?_ (by rw [av,bt];omega) (aE _))
  obtain ⟨e1,ho1⟩:∃e1,(h0.update a (aT λ_=>(#[]:Array af))).get? a=some (bo "list" #[] e1):=⟨_,ee ho (λ_=>#[])⟩
  refine aa (eM ho1 rfl ?_)
  refine aa (fK ?_ (by show its.length<=_;rw [bt];omega))
  refine aa (fb ?_ (aE _))
  refine bN ?_
  have ho6:(((h0.update a (aT λ_=>(#[]:Array af))).push (bo "tuple" its.toArray 0)).push (bo "list" #[] 0)).get? a=some (bo "list" #[] e1):=by
   rw [cD _ _ _ (by rw [nJ,dG];exact aB (cf hal)),cD _ _ _ (by rw [dG];exact aB hal)]
   exact ho1
  have keep6:∀b o,s.heap.get? b=some o->(((h0.update a (aT λ_=>(#[]:Array af))).push (bo "tuple" its.toArray 0)).push (bo "list" #[] 0)).get? b=some o:=λb o q =>
   ai _ (ai _ ((bW _ _ _ _ (aNew b o q)).trans (keep b o q)))
  show au (aC prog w) A.in1.in1 _ _ _ { s with heap:=((h0.update a (aT λ_=>(#[]:Array af))).push (bo "tuple" its.toArray 0)).push (bo "list" #[] 0) }
  generalize ((h0.update a (aT λ_=>(#[]:Array af))).push (bo "tuple" its.toArray 0)).push (bo "list" #[] 0)=h6 at ho6 keep6
  dsimp only
  have fin:∀(ix:List Nat),ix.Perm (aF its.length)->G ix->∀out:Array af,out=(ix.map λi=>its.getD i aS).toArray ->
    ∃v,rO (Flow.ret aS) = .done (.ret v)/\au (aC prog w) A.in1 (do let _ <- pure v;ret (aQ a)) (λfin s'=>∃v,fin = .done (.ret v)/\Q v s') E { s with heap:=h6.update a (aT λ_=>out) }:=λix hp hg out ho'=>by
   refine ⟨_,rfl,aa (wpAny_pure (wpAny_pure ⟨_,rfl,?_⟩))⟩
   subst ho'
   exact h ix _ _ hp hg (λb o q=>(bW _ _ _ _ (aNew b o q)).trans (keep6 b o q)) (ee ho6 λ_=>_)
  by_cases h2:its.toArray.size<2
  ·rw [if_pos h2,if_pos h2]
   refine aa (wpAny_pure ?_)
   rw [mf]
   refine aa (wpAny_pure ?_)
   dsimp only
   refine aa (eM ho6 rfl ?_)
   rw [vC]
   refine aa (cM ho6 rfl ?_ (aE _) (by rw [av,bt];omega))
   simp only [bne_self_eq_false,cJ,if_false]
   rw [av] at h2
   exact wpAny_pure (fin _ (mG _) (h1 h2) _ (by rw [vo]))
  ·rw [if_neg h2,if_neg h2]
   rw [av] at h2
   refine aa (b7 (hk ∅ h6 keep6 (λκ' s'=>κ'=κ/\s'={ s with heap:=h6 }) ⟨rfl,rfl⟩) (λκ' s' q=>?_) λ_ _ x=>x.elim)
   obtain ⟨rfl,rfl⟩:=q
   refine aa (b7 (kat_run (ks:=its) (vs:=its) (κ:=κ') (G:=λp s'=>(qj its.length p/\G p.toList)/\s'={ s with heap:=h6 }) (Q:=λst' s'=>∃p:Array Nat,arrOf st'=p.map (sV (its.toArray.zip its.toArray))/\rP st'=none/\(qj its.length p/\G p.toList)/\s'={ s with heap:=h6 })
    rfl ∅ h64 (λp st' s' a1 a2 a3 a4=>⟨p,a2,a3,a4⟩) (qX.wp (I:=λs'=>s'={ s with heap:=h6 }) (λi j C s' hi hj hI hC=>?_) (λp s' hp hI=>⟨hp,hI⟩) (hs ∅) rfl)) ?_ λ_ _ e=>e)
   ·subst hI
    exact hc h6 keep6 i j hi hj C (hC _ rfl)
   ·rintro ⟨⟨⟩,st'⟩ s' ⟨p,har,hf,⟨hP,hG⟩,rfl⟩
    dsimp only
    have hout:=sW (ks:=its) (vs:=its) rfl har
    have hz:(oA (p.toList.map λi=>its.getD i aS)).size=its.length:=by rw [av,ah,bV,hP.size]
    rw [hout]
    refine aa (eM ho6 rfl ?_)
    refine aa (cM ho6 rfl ?_ (aE _) (by rw [hz,bt];omega))
    rw [hf]
    simp only [bne_self_eq_false,cJ,if_false]
    exact wpAny_pure (fin p.toList (by have:=Array.perm_iff_toList_perm.mp hP;simpa using this) hG _ rfl)
theorem QZ {v:af}{Q:af->Shared->Prop}(hcol:au (aC prog w) A.in1 (collect v) (λits s1=>au (aC prog w) A.in1 (pW its >>= λl=>fe [l] (call (.builtin "list.sort") [l] []) >>= λ_=>ret l) (λfin s'=>∃v,fin = .done (.ret v)/\Q v s') E s1) E s) :
  au (aC prog w) A (call (.builtin "sorted") [v]) Q E s:=by
 refine iU pI ow oz (args_sorted1 _) ?_
 unfold dO.«sorted»
 refine aa (m:=rM "sorted" 1 1 _) (wpAny_pure ?_)
 exact aa hcol
end
section
variable {X:Cx}
theorem Inv.laidN {pins:List (Addr×Obj)}{σ:St}{H:Hp}{s:Shared}{h':Heap}{a:Addr}{o:HO}{t':Nat}(I:Inv X pins σ H s) (k:∀b u,s.heap.get? b=some u->h'.get? b=some u) (hn:s.heap.get? a=none) (new:H a=none->jW X.prog X.w (upd H a o) h' a o):H a=none/\Inv X pins σ (upd H a o) { s with heap:=h',toks:=t' }:=by
 have hH:H a=none:=by
  cases q:H a with
  | none=>rfl
  | some u =>
   obtain ⟨ob,e⟩:=wX (I.hok a u q)
   rw [hn] at e
   cases e
 have ne:∀{b u},s.heap.get? b=some u->b≠a:=λe z=>by rw [z,hn] at e;cases e
 refine ⟨hH,I.un ⟨λb u q _ _ _=>k b u q,λb u q _ _ _=>⟨u.slots,k b u q⟩,λb u q n _=>by rw [j6 (ne q)];exact n,λb u q _=>⟨u,k b u q⟩,λb xs q=>by rw [j6 (j1 q hH)];exact q,λb u xs q=>by rw [j6 (j1 q hH)];exact q,λb ps q=>⟨#[],by rw [j6 (j1 q hH),q];simp⟩⟩ λb u e=>?_⟩
 by_cases hb:b=a
 ·subst hb;rw [j5] at e;cases e;exact new hH
 ·rw [j6 hb] at e
  exact (I.hok b u e).stay (λc v _ q=>k c v q) (λc q=>by rw [j6 (j1 q hH)];exact q) λc xs q=>by rw [j6 (j1 q hH)];exact q
theorem J5 (K:ag) (hca:X.calm=true) (hK:X.K=K:=by rfl):xb X (.builtin "sorted") (λxs H Q=>∃(p:Addr) (kvs:List (Key×V)) (ns:List Int),xs=[.ref p]/\H p=some (.dK kvs)/\kvs.map (·.1)=ns.map dP/\ns.length<64 /\
  ∀(l:Addr) H' (ns':List Int),H l=none->H' l=some (.lst (ns'.map V.int))->jn H H'->ns'.Perm ns->ns'.Pairwise (· <= ·)->Q (.ref l) H'):=by
 subst hK
 intro pins s σ H xs us Q I r h
 obtain ⟨p,kvs,ns,rfl,hp0,hks,h64,k⟩:=h
 obtain ⟨u,rfl,ru⟩:=yW r
 cases ru
 obtain ⟨hz,lo,vs,kv,dd⟩:=Yq I.hok hp0
 obtain ⟨ep,hat⟩:=dd.dictAt
 have hvl:vs.length=ns.length:=by
  have e1:kvs.length=vs.length:=aX kv
  have e2:=congrArg mB hks
  rw [ah,ah] at e2
  omega
 refine QZ (kdu_collect (kdl_dict (knd:=jC X.prog X.w) (kvs:=vs) (ep:=ep) lo) (I.ok.hd hca) hat (eO (jj ∅)) λh1 tk acc hk1 hacc=>?_)
 have hal:acc.toList.length=ns.length:=by rw [bV,hacc.1,hvl]
 have item:∀i,i<acc.toList.length->∃t,acc.toList.getD i aS = .int (ns.getD i 0) t:=λi hi=>by
  have hi2:i<acc.size:=by rw [bV] at hi;exact hi
  obtain ⟨key,x,hx,his⟩:=hacc.2 i acc[i] (iV hi2)
  have hi3:i<kvs.length:=by
   have e1:kvs.length=vs.length:=aX kv
   omega
  obtain ⟨q,hq,e1,_⟩:=Paired.get kv (ae hi3)
  rw [hx] at hq
  cases hq
  have e2:(kvs.map (·.1))[i]? = some key:=by rw [ax,ae hi3];exact congrArg some e1
  have hin:i<ns.length:=∅
  rw [hks,ax,ae hin] at e2
  cases e2
  obtain ⟨t,et⟩:=iZ his
  refine ⟨t,?_⟩
  rw [ak,fS,iV hi2,et,ak,ae hin]
  rfl
 generalize acc.toList=its at hal item
 refine JN (s:={ s with heap:=h1,toks:=tk }) (κ:=oneType') (lt:=ltK Uh λi=>ns.getD i 0) (G:=λix=>(ix.map λi=>ns.getD i 0).Pairwise Uh.kle) ∅ (λh2 h' hk' Q' q=>?_) (λh' hk' i j hi hj Q' q=>?_) (λh2=>?_) (λh1=>?_) λix h' n hp hg hk' hn=>?_
 ·refine kas_kind (T:=.type "int") h2 (λv hv=>?_) rfl rfl q
  obtain ⟨i,hi,rfl⟩:=List.mem_iff_getElem.mp hv
  obtain ⟨t,e1⟩:=item i hi
  have e3:its[i] = .int (ns.getD i 0) t:=by rw [<- e1];simp [hi]
  rw [e3]
  exact sr rfl
 ·obtain ⟨t,e1⟩:=item i hi
  obtain ⟨u,e2⟩:=item j hj
  rw [e1,e2]
  exact kat_lt_int q
 ·exact wf ∅ λp' hP hS=>⟨hP,hS.pairwise hP.size⟩
 ·have hcase:its.length=0\/its.length=1:=∅
  rcases hcase with z | z
  ·rw [z];exact fI
  ·rw [z];exact fm _ _
 ·have hn0:s.heap.get? h1.objs.size=none:=by
   cases q:s.heap.get? h1.objs.size with
   | none=>rfl
   | some u=>exact absurd (ay (hk1 _ _ q)) (cu _)
  have hv:jz ((ix.map λi=>ns.getD i 0).map V.int) (ix.map λi=>its.getD i aS):=by
   have hb:∀i∈ix,i<its.length:=λi hi=>by have:=hp.mem_iff.mp hi;simpa using this
   clear hp hg hn
   induction ix with
   | nil=>exact .nil
   | cons i ix ih =>
    obtain ⟨t,e⟩:=item i (hb i aH)
    exact .cons ⟨t,e⟩ (ih λj hj=>hb j (aD _ hj))
  have hns:((aF its.length).map λi=>ns.getD i 0)=ns:=by
   apply lK
   ·simp [hal]
   ·intro i h1 h2
    simp [h2]
  have hsz:((ix.map λi=>ns.getD i 0).map V.int).length<=sizeLine:=by
   rw [ah,ah,hp.length_eq,bg]
   exact aG (by omega:its.length<=1000) ⋯
  obtain ⟨hf,J⟩:=Inv.laidN (o:=.lst ((ix.map λi=>ns.getD i 0).map V.int)) (t':=tk) I (λb o e=>hk' b o (hk1 b o e)) hn0 λ_=>⟨hsz,_,n,hv,hn⟩
  refine ⟨.ref _,upd H h1.objs.size (.lst ((ix.map λi=>ns.getD i 0).map V.int)),J,rfl,k _ _ _ hf j5 (jn.new hf) ?_ ?_⟩
  ·have:=hp.map λi=>ns.getD i 0
   rw [hns] at this
   exact this
  ·exact List.Pairwise.imp (R:=Uh.kle) (λ{a b} z=>Yv z) hg
end
end L2
end
section
namespace L2
open PySem.W
theorem Inv.freeze {X:Cx}{pins:List (Addr×Obj)}{σ:St}{H:Hp}{s:Shared}{a:Addr}{o:Obj}{kvs:List (Key×V)}(I:Inv X pins σ H s) (e:H a=some (.dK kvs)) (ho:s.heap.get? a=some o):Inv X pins σ (upd H a (.frz o (.dK kvs))) s:=by
 refine I.un (t':=s.toks) ⟨λb u q _ _ _=>q,λb u q _ _ _=>⟨u.slots,q⟩,λb u q n _=>?_,λb u q _=>⟨u,q⟩,λb xs q=>?_,λb u xs q=>?_,λb ps q=>⟨#[],?_⟩⟩ λb u q=>?_
 ·rw [j6 (λz=>by rw [z,e] at n;cases n)];exact n
 ·rw [j6 (ji q e (by intro z;cases z))];exact q
 ·rw [j6 (ji q e (by intro z;cases z))];exact q
 ·rw [j6 (ji q e (by intro z;cases z)),q];simp
 ·by_cases hb:b=a
  ·subst hb
   rw [j5] at q
   cases q
   exact ⟨ho,I.hok _ _ e⟩
  ·rw [j6 hb] at q
   exact (I.hok b u q).stay (λc v _ q=>q) (λc q=>by rw [j6 (ji q e (by intro z;cases z))];exact q) λc xs q=>by rw [j6 (ji q e (by intro z;cases z))];exact q
noncomputable def Itd (a:Addr) (o:Obj) (kvs:List (Key×V)):It :=
 ⟨λi H=>H a=some (.frz o (.dK kvs))/\i<kvs.length,λi H x H'=>H'=H/\∃q,kvs[i]? = some q/\x=kV q.1,λi H=>H a=some (.frz o (.dK kvs))/\kvs.length<=i⟩
theorem relK {P:Program}{w:aU}{k:Key}{v:af}(h:(jC P w).is k v=true):jA (kV k) v:=by
 cases k with
 | inl i=>exact iZ h
 | inr x=>exact mV h
theorem Zn {P:Program}{w:aU}{K:ag}{tg:Expr}{a it:Addr}{o:Obj}{kvs:List (Key×V)}{vs:List (Key×af)}{ep:Nat}(kv:KV kvs vs) (HD:∀h:Heap,h.get? a=some o->h.DictAt (jC P w) a vs ep):Turn P w K tg (Itd a o kvs) [it] it (λi h=>h.IsKeyIter it a i vs.length ep) where
 mem:=by simp
 obj:=λi h st b hb=>by
  have e:b=it:=by simpa using hb
  subst e
  obtain ⟨o,e,c,d⟩:=st
  exact ⟨o,e,λv z=>by rw [d] at z;cases z⟩
 keep:=λi h h' st k=>st.at λo e=>k it (by simp) o e
 item:=by
  intro X hP hw hK hc i pins s σ H E I hf st hg
  subst hP hw hK
  obtain ⟨hq,hi⟩:=hg
  have hat:=HD s.heap (I.hok _ _ hq).1
  have hl:kvs.length=vs.length:=aX kv
  obtain ⟨f0,f1,f2,f3,f4,f5⟩:=hf it (by simp)
  obtain ⟨⟨k,x⟩,hx,ek,_⟩:=Paired.get kv (ae hi)
  refine wpAny_pyNext_dict_item st hat hx λkey h' hkey st' sb=>?_
  have I1:Inv X pins σ H { s with heap:=h' }:=I.turned (t':=s.toks) (λb o hb e=>(sb.2 b hb).trans e) f0 f1 f3 f4 f5
  obtain ⟨ob,e,c,d⟩:=id st'
  exact ⟨key,rfl,gp (s:={ s with heap:=h' }) e c d ⋯ ⟨kV k,H,I1,relK hkey,⟨rfl,_,ae hi,by rw [show (kvs[i]'hi).1=k from ek]⟩,st',λb hb=>(hf b hb).1⟩⟩
 done:=by
  intro X hP hw hK hc i pins s σ H E I hf st hg
  subst hP hw hK
  obtain ⟨hq,hi⟩:=hg
  have hat:=HD s.heap (I.hok _ _ hq).1
  have hl:kvs.length=vs.length:=aX kv
  obtain ⟨f0,f1,f2,f3,f4,f5⟩:=hf it (by simp)
  exact wpAny_pyNext_dict_end (I.ok.hd hc) st hat (by simp;omega) λh' eb=>⟨rfl,I.turned (t':=s.toks) (λb o hb e=>eb b o hb e) f0 f1 f3 f4 f5⟩
 self:=λ_ _ _ _ _ st h=>mO st h
noncomputable def iDic (td:TE):TI:=λσ H R=>td σ H λx H1=>∃a kvs,x = .ref a/\((H1 a=some (.dK kvs)/\∀o,R (Itd a o kvs) (upd H1 a (.frz o (.dK kvs))))\/∃o,H1 a=some (.frz o (.dK kvs))/\R (Itd a o kvs) H1)
theorem w9 {X:Cx}{tg l:Expr}{td:TE}(hl:PE X l td):PI X tg l (iDic td):=by
 intro pins s σ H R I h
 refine thn (hl pins s σ H _ I h) λv s1 ⟨x,H1,I1,r1,a,kvs,e,q⟩=>?_
 subst e
 cases r1
 have main:∀{H2:Hp} {o:Obj},Inv X pins σ H2 s1->H2 a=some (.frz o (.dK kvs))->R (Itd a o kvs) H2->au (aC X.prog X.w) X.A (lq (.ref a)) (PIE X pins σ tg R) X.xe s1:=λ{H2 o} I2 e2 q2=>by
  have ho:=(I2.hok _ _ e2).1
  obtain ⟨hz,lo,vs,kv,dd⟩:=uI I2.hok (.inr ⟨o,e2⟩)
  obtain ⟨ep,ob,es,h1,hrest⟩:=dd.dictAt
  rw [ho] at h1
  cases h1
  have HD:∀h:Heap,h.get? a=some o->h.DictAt (jC X.prog X.w) a vs ep:=λh e=>⟨o,es,e,hrest⟩
  refine wpAny_pyIter_dict lo (HD _ ho) ?_
  refine ⟨s1.heap.objs.size,[s1.heap.objs.size],_,_,H2,rfl,I2.kept (t':=s1.toks) λb o e=>ai _ e,Zn kv HD,⟨_,az _ rfl,rfl,rfl⟩,λb hb=>?_,q2⟩
  have e:b=s1.heap.objs.size:=by simpa using hb
  subst e
  exact I2.fpOk (ao _) (I2.hok.fresh (ao _))
 rcases q with ⟨e1,q1⟩ | ⟨o,e1,q1⟩
 ·obtain ⟨hz,lo,vs,kv,dd⟩:=uI I1.hok (.inl e1)
  obtain ⟨ep,ob,es,h1,hrest⟩:=dd.dictAt
  exact main (I1.freeze e1 h1) j5 (q1 ob)
 ·exact main I1 e1 q1
theorem Qj {a:Addr}{o:Obj}{kvs:List (Key×V)}{g:TG}{tb:TS}{D:Ends}{σ:St}{H:Hp}(Pv:Nat->St->Hp->Prop) (h0:Pv 0 σ H) (hl:∀i σ H,i<=kvs.length->Pv i σ H->H a=some (.frz o (.dK kvs)))
  (hs:∀i q σ H,kvs[i]? = some q->Pv i σ H->g (kV q.1) σ H λσ2 H2=>tb { D with nx:=Pv (i+1),ct:=Pv (i+1),bk:=D.nx } σ2 H2) (hd:∀σ H,Pv kvs.length σ H->D.nx σ H) :
  ∃W:Nat->Nat->St->Hp->Prop,(∃m,W 0 m σ H)/\∀i m σ H,W i m σ H ->
   ((Itd a o kvs).stop i H/\D.nx σ H)\/((Itd a o kvs).go i H/\∃N:St->Hp->Prop,(∀σ' H',N σ' H'->∃m',m'<m/\W (i+1) m' σ' H')/\∀x H',(Itd a o kvs).yld i H x H'->g x σ H' λσ2 H2=>tb { D with nx:=N,ct:=N,bk:=D.nx } σ2 H2):=by
 refine ⟨λi m σ H=>m=kvs.length-i/\i<=kvs.length/\Pv i σ H,⟨kvs.length,by simp,aE _,h0⟩,?_⟩
 rintro i m σ H ⟨rfl,hi,p⟩
 have q:=hl i σ H hi p
 by_cases hlt:i<kvs.length
 ·refine .inr ⟨⟨q,hlt⟩,Pv (i+1),λσ' H' p'=>⟨kvs.length-(i+1),∅,rfl,hlt,p'⟩,λx H' y=>?_⟩
  obtain ⟨e,z,hz,ex⟩:=y
  subst e ex
  exact hs i z σ _ hz p
 ·obtain rfl:i=kvs.length:=∅
  exact .inl ⟨⟨q,ao _⟩,hd σ H p⟩
theorem Zr {a acc:Addr}{o:Obj}{kvs:List (Key×V)}{g:TG}{ti:TT}{te:TE}{R:Hp->Prop}{σ:St}{H:Hp}(Pv:Nat->St->Hp->Prop) (h0:Pv 0 σ H) (hl:∀i σ H,i<=kvs.length->Pv i σ H->H a=some (.frz o (.dK kvs)))
  (hs:∀i q σ H,kvs[i]? = some q->Pv i σ H->g (kV q.1) σ H λσ3 H3=>ti σ3 H3 λok H4=>if ok=true then te σ3 H4 λv H5=>∃ys,H5 acc=some (.lst ys)/\ys.length<sizeLine/\Pv (i+1) σ3 (upd H5 acc (.lst (ys++[v]))) else Pv (i+1) σ3 H4)
  (hd:∀σ H,Pv kvs.length σ H->R H) :
  ∃W:Nat->Nat->St->Hp->Prop,(∃m,W 0 m σ H)/\∀i m σ' H',W i m σ' H' ->
   ((Itd a o kvs).stop i H'/\R H')\/((Itd a o kvs).go i H'/\∃NX:St->Hp->Prop,(∀σ2 H2,NX σ2 H2->∃m',m'<m/\W (i+1) m' σ2 H2) /\
    ∀x H2,(Itd a o kvs).yld i H' x H2->g x σ' H2 λσ3 H3=>ti σ3 H3 λok H4=>if ok=true then te σ3 H4 λv H5=>∃ys,H5 acc=some (.lst ys)/\ys.length<sizeLine/\NX σ3 (upd H5 acc (.lst (ys++[v]))) else NX σ3 H4):=by
 refine ⟨λi m σ H=>m=kvs.length-i/\i<=kvs.length/\Pv i σ H,⟨kvs.length,by simp,aE _,h0⟩,?_⟩
 rintro i m σ H ⟨rfl,hi,p⟩
 have q:=hl i σ H hi p
 by_cases hlt:i<kvs.length
 ·refine .inr ⟨⟨q,hlt⟩,Pv (i+1),λσ' H' p'=>⟨kvs.length-(i+1),∅,rfl,hlt,p'⟩,λx H' y=>?_⟩
  obtain ⟨e,z,hz,ex⟩:=y
  subst e ex
  exact hs i z σ _ hz p
 ·obtain rfl:i=kvs.length:=∅
  exact .inl ⟨⟨q,ao _⟩,hd σ H p⟩
end L2
end
section
namespace L2
open PySem.W
theorem ZP {P:Program}{w:aU}{K:ag}{tg:Expr}(it:Addr) (lo:Int) (n:Nat):Turn P w K tg (Itr lo n) [it] it (λi h=>IsLongIter h it (lo+(i:Nat)*1) ((n:Int)-(i:Nat)) 1) where
 mem:=by simp
 obj:=λi h st b hb=>by
  have e:b=it:=by simpa using hb
  subst e
  exact ⟨_,st,λv z=>by
   have z':mz _=lF v:=z
   cases z'⟩
 keep:=λi h h' st k=>k it (by simp) _ st
 item:=by
  intro X hP hw hK hc i pins s σ H E I hf st hg
  subst hP hw hK
  obtain ⟨f0,f1,f2,f3,f4,f5⟩:=hf it (by simp)
  have W:=Walks.longrange (prog:=X.prog) (w:=X.w) (I.ok.hd hc) it lo 1 n
  refine W.item i s _ _ hg st λv h' tk hv st' kk=>?_
  obtain ⟨t,rfl⟩:=hv
  have I1:Inv X pins σ H { s with heap:=h',toks:=tk }:=I.turned (λb o hb e=>kk b o (by simpa using hb) e) f0 f1 f3 f4 f5
  refine ⟨_,rfl,gp (s:={ s with heap:=h',toks:=tk }) (n:="longrange_iterator") st' rfl rfl ⋯ ⟨.int (lo+i),H,I1,⟨t,?_⟩,⟨rfl,rfl⟩,st',λb hb=>(hf b hb).1⟩⟩
  rw [Int.mul_one]
 done:=by
  intro X hP hw hK hc i pins s σ H E I hf st hg
  subst hP hw hK
  obtain ⟨f0,f1,f2,f3,f4,f5⟩:=hf it (by simp)
  exact wpAny_pyNext_long_end (I.ok.hd hc) st (by have:n<=i:=hg;omega) λh' eb=>⟨rfl,I.turned (t':=s.toks) (λb o hb e=>eb b o hb e) f0 f1 f3 f4 f5⟩
 self:=λ_ _ _ _ _ st h=>wpAny_pyIter_longiter st h
section
variable {X:Cx}{tg:Expr}
theorem ZB {pins:List (Addr×Obj)}{σ:St}{H:Hp}{s:Shared}{R:It->Hp->Prop}{E:af->Shared->Prop}{lo hi:Int}{t u v:Tok}{tk:Nat}(I:Inv X pins σ H s)
  (q:R (Itr lo (hi-lo).toNat) H):au (aC X.prog X.w) X.A (lq (.ref s.heap.objs.size)) (PIE X pins σ tg R) E { s with heap:=s.heap.push { cls:=.type "range",data:=.fields #[.int lo t,.int hi u,.int 1 v] },toks:=tk }:=by
 have I1:Inv X pins σ H { s with heap:=s.heap.push { cls:=.type "range",data:=.fields #[.int lo t,.int hi u,.int 1 v] },toks:=tk }:=I.kept λb o e=>ai _ e
 have e1:lo+((0:Nat):Int)*1=lo:=by simp
 have e2:(((hi-lo).toNat:Nat):Int)-((0:Nat):Int)=lH lo hi 1:=by rw [rZ];split <;> omega
 have fp:∀b∈[(s.heap.push { cls:=.type "range",data:=.fields #[.int lo t,.int hi u,.int 1 v] }).objs.size],_:=λb hb=>by
  have e:b=(s.heap.push { cls:=.type "range",data:=.fields #[.int lo t,.int hi u,.int 1 v] }).objs.size:=by simpa using hb
  subst e
  exact I1.fpOk (ao _) (I1.hok.fresh (ao _))
 by_cases sm:Builtin.Range.small lo hi 1=true
 ·refine nk (pC ..) sm ?_
  refine ⟨(s.heap.push { cls:=.type "range",data:=.fields #[.int lo t,.int hi u,.int 1 v] }).objs.size,[(s.heap.push { cls:=.type "range",data:=.fields #[.int lo t,.int hi u,.int 1 v] }).objs.size],_,_,H,rfl,
   I1.kept (t':=tk) λb o e=>ai _ e,k8 _ lo (hi-lo).toNat,?_,fp,q⟩
  show pA _ _ (lo+((0:Nat):Int)*1) ((((hi-lo).toNat:Nat):Int)-((0:Nat):Int)) 1
  rw [e1,e2]
  exact az _ rfl
 ·refine wpAny_pyIter_longrange (pC ..) (by simpa using sm) ?_
  refine ⟨(s.heap.push { cls:=.type "range",data:=.fields #[.int lo t,.int hi u,.int 1 v] }).objs.size,[(s.heap.push { cls:=.type "range",data:=.fields #[.int lo t,.int hi u,.int 1 v] }).objs.size],_,_,H,rfl,
   I1.kept (t':=tk) λb o e=>ai _ e,ZP _ lo (hi-lo).toNat,?_,fp,q⟩
  show IsLongIter _ _ (lo+((0:Nat):Int)*1) ((((hi-lo).toNat:Nat):Int)-((0:Nat):Int)) 1
  rw [e1,e2]
  exact az _ rfl
noncomputable def WZ (ta:TA):TI:=λσ H R=>ta σ H λvs H1=>∃i j:Int,vs=[.int i,.int j]/\R (Itr i (j-i).toNat) H1
theorem Y1 {a b:Expr}{ta:TA}{p pos:Pos}(hg:Gl X "range") (hm:X.mg "range" = none) (ha:PA X [a,b] ta) (hs:aK [a,b] X.env=[(false,eval a X.env),(false,eval b X.env)]:=by rfl) (hs2:aK [b] X.env=[(false,eval b X.env)]:=by rfl) :
  PI X tg (.Call (.Name "range" p) [a,b] [] pos) (WZ ta):=by
 intro pins s σ H R I h
 refine t7 (y7 I hg hm rn (bZ (thn (ha pos pins s σ H _ I h) λus s1 ⟨vs,H1,I1,r1,q1⟩=>?_) (by rw [hs,hs2]) (by rw [hs2];rfl)))
 obtain ⟨i,j,e,q⟩:=q1
 subst e
 cases r1 with
 | cons r rr =>
  cases rr with
  | cons r' rr =>
   cases rr
   obtain ⟨t,rfl⟩:=r
   obtain ⟨t',rfl⟩:=r'
   exact call_range_2 (ZB I1 q)
end
end L2
end
section
namespace L2
open PySem.W
noncomputable def Fz (a:Addr) (kvs:List (Key×V)) (o:Obj) (H H4:Hp):Prop:=H4 a=some (.frz o (.dK kvs))/\(H4=H\/(H a=some (.dK kvs)/\H4=upd H a (.frz o (.dK kvs))))
theorem Fz.at {a:Addr}{kvs:List (Key×V)}{o:Obj}{H H4:Hp}(f:Fz a kvs o H H4) {c:Addr}{u:HO}(h:H c=some u) (n:c≠a):H4 c=some u:=by
 rcases f.2 with rfl | ⟨_,rfl⟩
 ·exact h
 ·rw [j6 n];exact h
theorem uj {a:Addr}{kvs:List (Key×V)}{g:TG}{tb:TS}{D:Ends}{σ:St}{H:Hp}(h:Rd H a (.dK kvs)) (Pv:Obj->Nat->St->Hp->Prop) (h0:∀o H4,Fz a kvs o H H4->Pv o 0 σ H4) (hl:∀o i σ H,i<=kvs.length->Pv o i σ H->H a=some (.frz o (.dK kvs)))
  (hs:∀o i q σ H,kvs[i]? = some q->Pv o i σ H->g (kV q.1) σ H λσ2 H2=>tb { D with nx:=Pv o (i+1),ct:=Pv o (i+1),bk:=D.nx } σ2 H2) (hd:∀o σ H,Pv o kvs.length σ H->D.nx σ H) :
  ∃a' kvs',V.ref a = .ref a'/\((H a'=some (.dK kvs')/\∀o,∃W:Nat->Nat->St->Hp->Prop,(∃m,W 0 m σ (upd H a' (.frz o (.dK kvs'))))/\∀i m σ H,W i m σ H ->
   ((Itd a' o kvs').stop i H/\D.nx σ H)\/((Itd a' o kvs').go i H/\∃N:St->Hp->Prop,(∀σ' H',N σ' H'->∃m',m'<m/\W (i+1) m' σ' H')/\∀x H',(Itd a' o kvs').yld i H x H'->g x σ H' λσ2 H2=>tb { D with nx:=N,ct:=N,bk:=D.nx } σ2 H2)) \/
   ∃o,H a'=some (.frz o (.dK kvs'))/\∃W:Nat->Nat->St->Hp->Prop,(∃m,W 0 m σ H)/\∀i m σ H,W i m σ H ->
   ((Itd a' o kvs').stop i H/\D.nx σ H)\/((Itd a' o kvs').go i H/\∃N:St->Hp->Prop,(∀σ' H',N σ' H'->∃m',m'<m/\W (i+1) m' σ' H')/\∀x H',(Itd a' o kvs').yld i H x H'->g x σ H' λσ2 H2=>tb { D with nx:=N,ct:=N,bk:=D.nx } σ2 H2)):=by
 rcases h with h | ⟨o,h⟩
 ·exact ⟨a,kvs,rfl,.inl ⟨h,λo=>Qj (a:=a) (o:=o) (kvs:=kvs) (Pv o) (h0 o _ ⟨j5,.inr ⟨h,rfl⟩⟩) (hl o) (hs o) (hd o)⟩⟩
 ·exact ⟨a,kvs,rfl,.inr ⟨o,h,Qj (a:=a) (o:=o) (kvs:=kvs) (Pv o) (h0 o _ ⟨h,.inl rfl⟩) (hl o) (hs o) (hd o)⟩⟩
end L2
end
section
namespace L2
open PySem.W
section
variable {prog:Program}{w:aU}{A:bb}{E:af->Shared->Prop}{s:Shared}
theorem Vz:rE (.type "list") "keys" = pure none:=by rw [typeLookup_type,builtinLookup_eq_fast];kernel_rfl
theorem ZX {a:Addr}{o:Obj}{xs:Array af}{k:Nat}{Q:Option af->Shared->Prop}(hx:s.heap.get? a=some o) (hc:o.cls = .type "list") (hdat:o.data = .seq xs k) (hd:o.dict=none) (hA:A.handled=none)
  (h:∀h' tk,(∀b o,s.heap.get? b=some o->h'.get? b=some o)->Q none { s with heap:=h',toks:=tk }):au (aC prog w) A (getAttr? (.ref a) "keys") Q E s:=by
 obtain ⟨c,dct,dat,sl⟩:=o
 simp only at hc hdat hd
 subst hc hdat hd
 obtain ⟨hp,g,d,tk,os⟩:=s
 have hT:∀tk',(⟨hp,g,d,tk',os⟩:Shared).TypeIs (.ref a) "list":=λ_=>⟨_,hx,rfl⟩
 have f1:=sub_AttributeError
 have f3:=F.slot_list_getattribute.lookup
 have f4:=F.slot_list_getattribute.bind (.ref a)
 have f5:=am_list_getattr_none
 unfold getAttr? getAttrBy? getAttrBy
 repeat (any_goals (first | assumption | exact hT _ | ((with_reducible show au _ _ (call (Value.builtin "list.__getattribute__") _ _) _ _ _);refine fg F.slot_list_getattribute (hT _) am_entry_list_getattribute (F.args_list_getattribute_2 _ _) (meets_getattribute_miss_list a xs k sl "keys" _ Vz (by decide +kernel) ⋯) ⟨hx,hA,λh' tk' e hx'=>?_⟩) | wp_step))
 obtain ⟨t',u',he⟩:=hx'.there
 show au _ _ (nN _ _ _ _ _ _ _) _ _ _
 unfold nN
 repeat (any_goals (first | assumption | wp_step))
 exact h h' tk' hx'.of.keeps
end
theorem uO:entryFor table "dict.update.loop" = some dO.«dict.update.loop»:=entryFor_of_tree (by kernel_rfl)
theorem zq:plainId "dict.update.loop" = true:=by decide +kernel
section
variable {prog:Program}{w:aU}{A:bb}{R:nu->Shared->Prop}{d it l:Addr}{items:Array af}{qs:List (Key×af×af)}
noncomputable def Jk (d it:Addr) (items:Array af) (qs:List (Key×af×af)) (h:Heap):Prop:=∀(i:Nat) (q:Key×af×af),qs[i]? = some q->∃b:Addr,items[i]? = some (.ref b)/\b≠d/\b≠it/\h.IsTuple b #[q.2.1,q.2.2]
theorem Jk.keep {h h':Heap}(x:Jk d it items qs h) (k:∀b o,b≠d->b≠it->h.get? b=some o->h'.get? b=some o):Jk d it items qs h':=λi q hq=>by
 obtain ⟨b,h1,h2,h3,o,ho,r⟩:=x i q hq
 exact ⟨b,h1,h2,h3,o,k b o h2 h3 ho,r⟩
theorem Y6 (hh:A.handled=none) (hld:l≠d) (hli:l≠it) (hdi:d≠it) (hsz:qs.length<=sizeLine) (hk:∀q∈qs,(jC prog w).is q.1 q.2.1=true) (nd:(qs.map (·.1)).Nodup) (hn:items.size=qs.length) :
  ∀(n i:Nat) (s:Shared),qs.length-i=n->i<=qs.length->s.heap.IsListIter it l i->s.heap.IsList l items->Jk d it items qs s.heap->s.heap.DictOf (jC prog w) d ((qs.take i).map λq=>(q.1,q.2.2)) ->
   (∀h' tk,(∀b o,b≠d->b≠it->s.heap.get? b=some o->h'.get? b=some o)->h'.DictOf (jC prog w) d (qs.map λq=>(q.1,q.2.2))->R (.ok (.ret .none)) { s with heap:=h',toks:=tk }) ->
   d5 (aC prog w) A (.builtin "dict.update.loop" ⟨[.ref d,.ref it,bJ i,.none],[]⟩) R s:=by
 have hh1:A.in1.handled=none:=by simp [hh]
 intro n
 induction n with
 | zero =>
  intro i s e hi st hl ht hd hR
  obtain rfl:i=qs.length:=∅
  refine iq uO ?_
  rw [eL zq _]
  show au _ A.in1 (eU (.ref it) >>= _) _ _ s
  refine aa (ml hh1 st hl (by simp;omega) λh' eb=>?_)
  show au _ A.in1 (Builtin.Dict.addKeywords d [] >>= _) _ _ _
  rw [aZ] at hd
  exact aa (wpAny_pure (wpAny_pure (hR h' s.toks (λb o _ h2 h=>eb b o h2 h) (hd.extBut eb hdi))))
 | succ n ih =>
  intro i s e hi st hl ht hd hR
  have hlt:i<qs.length:=∅
  obtain ⟨⟨k,kv,v⟩,hq⟩:∃q,qs[i]? = some q:=⟨_,ae hlt⟩
  obtain ⟨b,hb,bd,bi,hbt⟩:=ht i _ hq
  refine iq uO ?_
  rw [eL zq _]
  show au _ A.in1 (eU (.ref it) >>= _) _ _ s
  refine aa (lQ st hl hb λh1 st1 sb=>?_)
  have hbt1:h1.IsTuple b #[kv,v]:=by
   obtain ⟨o,ho,r⟩:=hbt
   exact ⟨o,(sb.2 b bi).trans ho,r⟩
  show au _ A.in1 (fe [aQ b] _ >>= _) _ _ _
  obtain ⟨ob,hob,hcb,nb,hdb⟩:=hbt1
  refine aa (bN (aa (wpAny_tryCatch ?_)))
  unfold Builtin.Dict.pairItems
  refine aa (lU (T:="tuple") ⟨ob,hob,hcb⟩ ?_)
  rw [if_pos ⋯]
  refine aa (cQ hob hdb (wpAny_pure ?_))
  show au _ A.in1 (fe [kv,v] (dictSet d kv v)) _ _ _
  have hd1:h1.DictOf (jC prog w) d ((qs.take i).map λq=>(q.1,q.2.2)):=hd.sameBut sb hdi
  refine bN (wpAny_dictSet_pairs (s:={ s with heap:=h1 }) (hk _ (aw hq)) hd1 (λh2 hd2 sd=>?_) (by rw [ah,aM];omega))
  refine wpAny_pure ⟨ly zq _,?_⟩
  have keep:∀c o,c≠d->c≠it->s.heap.get? c=some o->h2.get? c=some o:=λc o n1 n2 h=>(sd.2 c n1).trans ((sb.2 c n2).trans h)
  refine ih (i+1) { s with heap:=h2,toks:=s.toks+1 } ∅ ∅ ?_ ?_ (ht.keep keep) ?_ λh3 tk k3 d3=>?_
  ·obtain ⟨o,ho,r⟩:=st1
   exact ⟨o,(sd.2 it hdi.symm).trans ho,r⟩
  ·obtain ⟨o,ho,r⟩:=hl
   exact ⟨o,keep l o hld hli ho,r⟩
  ·have e:sH ((qs.take i).map λq=>(q.1,q.2.2)) k v=(qs.take (i+1)).map λq=>(q.1,q.2.2):=by
    rw [sH,if_neg,c3,hq]
    ·simp
    ·intro z
     obtain ⟨x,hx,ex⟩:=List.any_eq_true.mp z
     obtain ⟨u,hu,rfl⟩:=List.mem_map.mp hx
     have ex:u.1=k:=of_decide_eq_true ex
     obtain ⟨j,hj,ej⟩:=List.mem_iff_getElem.mp hu
     rw [aM] at hj
     rw [oH] at ej
     obtain ⟨_,eq⟩:=List.getElem?_eq_some_iff.mp hq
     have h1:(qs.map (·.1))[j]'(by rw [ah];omega)=(qs.map (·.1))[i]'(by rw [ah];exact hlt):=by rw [dJ,dJ,ej,eq,ex]
     exact absurd h1 (List.pairwise_iff_getElem.mp nd j i _ _ ∅)
   rw [<- e]
   exact hd2
  ·exact hR h3 tk (λc o n1 n2 h=>k3 c o n1 n2 (keep c o n1 n2 h)) d3
end
section
variable {prog:Program}{w:aU}{A:bb}{E:af->Shared->Prop}{s:Shared}{l:Addr}{ol:Obj}{nl:Nat}{items:Array af}{qs:List (Key×af×af)}
theorem QQ {Q:af->Shared->Prop}(hh:A.handled=none) (ho:s.heap.get? l=some ol) (hc:ol.cls = .type "list") (hdt:ol.data = .seq items nl) (hdc:ol.dict=none) (hsz:qs.length<=sizeLine) (hk:∀q∈qs,(jC prog w).is q.1 q.2.1=true) (nd:(qs.map (·.1)).Nodup) (hn:items.size=qs.length)
  (ht:∀(i:Nat) (q:Key×af×af),qs[i]? = some q->∃b:Addr,items[i]? = some (.ref b)/\s.heap.IsTuple b #[q.2.1,q.2.2])
  (h:∀h' tk,(∀b o,s.heap.get? b=some o->h'.get? b=some o)->h'.DictOf (jC prog w) s.heap.objs.size (qs.map λq=>(q.1,q.2.2))->Q (.ref s.heap.objs.size) { s with heap:=h',toks:=tk }) :
  au (aC prog w) A (call (.type "dict") [.ref l]) Q E s:=by
 refine callType_codes (Q₁:=λobj s₁=>obj = .ref s.heap.objs.size/\s₁={ s with heap:=s.heap.push { cls:=.type "dict",data:=.dict #[] } }) F.kt_called_dict (F.kt_typeCall_dict_1 _) F.entry_dict_init (kt_code_dict_new _ ⟨rfl,rfl⟩) ?_
 rintro obj s₁ ⟨rfl,rfl⟩
 have hnew:(s.heap.push { cls:=.type "dict",data:=.dict #[] }).DictOf (jC prog w) s.heap.objs.size []:=pR s.heap
 have kp:∀b o,s.heap.get? b=some o->(s.heap.push { cls:=.type "dict",data:=.dict #[] }).get? b=some o:=λb o q=>ai _ q
 refine ⟨hnew.typeIs,F.args_dict_init_2 _ _,?_⟩
 have lt:∀b o,s.heap.get? b=some o->b≠s.heap.objs.size:=λb o q=>aB (ay q)
 unfold dO.«dict.__init__»
 refine aa ?_
 unfold Builtin.Dict.selfAndRest
 refine aa (mm hnew.typeIs ?_)
 show au _ _ (pure (s.heap.objs.size,[aQ l])) _ _ _
 refine wpAny_pure ?_
 show au _ _ (lM "dict.__init__" s.heap.objs.size (.ref l) [] .none) _ _ _
 unfold lM
 refine aa (lU (T:="list") ⟨_,kp _ _ ho,hc⟩ ?_)
 rw [if_pos ⋯]
 generalize hz:s.heap.push { cls:=.type "dict",data:=.dict #[] }=h0 at *
 refine aa (ZX (s:={ s with heap:=h0 }) (kp _ _ ho) hc hdt hdc (by simp [hh]) λh1 tk k1=>?_)
 rw [if_pos (show (none:Option af).isNone=true from rfl)]
 have hl1:h1.IsList l items:=⟨ol,k1 _ _ (kp _ _ ho),hc,nl,hdt⟩
 refine aa (fY ?_)
 refine aa (eI (s:={ s with heap:=h1,toks:=tk }) hl1 (wpAny_pure ⟨ly zq _,?_⟩))
 obtain ⟨od,_,_,hod,_⟩:=id hnew
 have hi1:∀b o,h1.get? b=some o->b≠h1.objs.size:=λb o q=>aB (ay q)
 have kp2:∀b o,s.heap.get? b=some o->(h1.push { cls:=.type "list_iterator",data:=.fields #[.ref l,.int 0 0] }).get? b=some o:=λb o q=>ai _ (k1 _ _ (kp _ _ q))
 refine Y6 (d:=s.heap.objs.size) (it:=h1.objs.size) (l:=l) (items:=items) (qs:=qs) (by simp [hh]) (lt _ _ ho) (hi1 _ _ (k1 _ _ (kp _ _ ho))) (hi1 _ _ (k1 _ _ hod)) hsz hk nd hn qs.length 0 _ ∅ (aE _) ⟨_,az _ rfl,rfl,rfl⟩ (hl1.push _) (λi q hq=>?_) ?_ λh' tk' k' d'=>?_
 ·obtain ⟨b,hb,o,hbo,r⟩:=ht i q hq
  exact ⟨b,hb,lt _ _ hbo,hi1 _ _ (k1 _ _ (kp _ _ hbo)),o,kp2 _ _ hbo,r⟩
 ·obtain ⟨o,es,ep,ho',r⟩:=hnew
  exact ⟨o,es,ep,ai _ (k1 _ _ ho'),r⟩
 ·exact ⟨rfl,h h' tk' (λb o q=>k' b o (lt _ _ q) (hi1 _ _ (k1 _ _ (kp _ _ q))) (kp2 _ _ q)) d'⟩
end
theorem uJ {α β:Type}(P:Nat->α->β->Prop):∀(l:List α) (n:Nat),(∀(i:Nat) a,l[i]? = some a->∃b,P (n+i) a b)->∃bs:List β,bs.length=l.length/\∀(i:Nat) a b,l[i]? = some a->bs[i]? = some b->P (n+i) a b
 | [],n,_=>⟨[],rfl,λi a b h=>by simp at h⟩
 | x::r,n,h=>by
  obtain ⟨b,hb⟩:=h 0 x rfl
  obtain ⟨bs,hl,hbs⟩:=uJ P r (n+1) λi a hi=>by
   have:=h (i+1) a (by simpa using hi)
   rwa [show n+1+i=n+(i+1) by omega]
  refine ⟨b::bs,by simp [hl],λi a b' h1 h2=>?_⟩
  cases i with
  | zero =>
   simp at h1 h2
   subst h1 h2
   exact hb
  | succ i =>
   have:=hbs i a b' (by simpa using h1) (by simpa using h2)
   rwa [show n+(i+1)=n+1+i by omega]
theorem gy {α β:Type}{F:α->β->Prop}:∀{l₁:List α}{l₂:List β},l₁.length=l₂.length->(∀(i:Nat) a b,l₁[i]? = some a->l₂[i]? = some b->F a b)->cO F l₁ l₂
 | [],[],_,_=>.nil
 | [],_::_,h,_=>by simp at h
 | _::_,[],h,_=>by simp at h
 | x::r,y::t,h,k=>.cons (k 0 x y rfl rfl) (gy (by simpa using h) λi a b h1 h2=>k (i+1) a b (by simpa using h1) (by simpa using h2))
theorem QS {X:Cx}(K:ag) (hca:X.calm=true) (hK:X.K=K:=by rfl):xb X (.type "dict") (λxs H Q=>∃(p:Addr) (out:List V) (ms:List (Int×Int)),xs=[.ref p]/\SqL K H p out/\cO (λv (m:Int×Int)=>∃b,v=V.ref b/\H b=some (.tup [.int m.1,.int m.2])) out ms/\(ms.map (·.1)).Nodup/\ms.length<=1000 /\
  ∀(d:Addr) H',H d=none->H' d=some (.dK (ms.map λm=>(.inl m.1,.int m.2)))->jn H H'->Q (.ref d) H'):=by
 subst hK
 intro pins s σ H xs us Q I r h
 obtain ⟨p,out,ms,rfl,hq,hm,nd,h1000,k⟩:=h
 obtain ⟨u,rfl,ru⟩:=yW r
 cases ru
 obtain ⟨its,rv,⟨ol,nl,ho,hc,hdc,hdt⟩,hz⟩:=I.list hq
 have hlen:out.length=ms.length:=aX hm
 have hits:out.length=its.length:=rv.length
 obtain ⟨qs,hql,hqs⟩:=uJ (λi (m:Int×Int) (q:Key×af×af)=>∃(b:Addr) (t1 t2:Tok),q=(.inl m.1,.int m.1 t1,.int m.2 t2)/\its[i]? = some (.ref b)/\s.heap.IsTuple b #[.int m.1 t1,.int m.2 t2]) ms 0 λi m hi=>by
  rw [m6]
  have hio:i<out.length:=by rw [hlen];exact (List.getElem?_eq_some_iff.mp hi).1
  obtain ⟨m',hm',b,eb,hb⟩:=Paired.get hm (ae hio)
  rw [hi] at hm'
  cases hm'
  obtain ⟨u,hu,ru⟩:=rv.get (ae hio)
  rw [eb] at ru
  cases (show u=aQ b from ru)
  obtain ⟨_,its',r',o,h1,h2,n,h3⟩:=(show jW X.prog X.w H s.heap b (.tup [.int m.1,.int m.2]) from I.hok b _ hb)
  cases r' with
  | cons p1 q1 =>
   cases q1 with
   | cons p2 q2 =>
    cases q2
    obtain ⟨t1,rfl⟩:=p1
    obtain ⟨t2,rfl⟩:=p2
    exact ⟨_,b,t1,t2,rfl,hu,o,h1,h2,n,h3⟩
 have get:∀(i:Nat) (q:Key×af×af),qs[i]? = some q->∃(m:Int×Int) (b:Addr) (t1 t2:Tok),ms[i]? = some m/\q=(.inl m.1,.int m.1 t1,.int m.2 t2)/\its[i]? = some (.ref b)/\s.heap.IsTuple b #[.int m.1 t1,.int m.2 t2]:=λi q hi=>by
  have him:i<ms.length:=by rw [<- hql];exact (List.getElem?_eq_some_iff.mp hi).1
  obtain ⟨b,t1,t2,e,h1,h2⟩:=hqs i _ q (ae him) hi
  rw [m6] at h1
  exact ⟨_,b,t1,t2,ae him,e,h1,h2⟩
 have keys:qs.map (·.1)=ms.map λm=>(dP m.1:Key):=by
  refine lh λi=>?_
  rw [ax,ax]
  cases e:qs[i]? with
  | none =>
   rw [List.getElem?_eq_none_iff] at e
   rw [List.getElem?_eq_none_iff.mpr ∅]
   rfl
  | some q =>
   obtain ⟨m,b,t1,t2,h1,h2,_⟩:=get i q e
   rw [h1,h2]
   rfl
 have ndk:(qs.map (·.1)).Nodup:=by
  rw [keys,show (ms.map λm=>(dP m.1:Key))=(ms.map (·.1)).map dP by rw [bP];rfl]
  exact oI _ (λa b h e=>h (dM e)) nd
 have KVr:KV (ms.map λm=>((.inl m.1,.int m.2):Key×V)) (qs.map λq=>(q.1,q.2.2)):=by
  refine gy (by rw [ah,ah,hql]) λi a b h1 h2=>?_
  rw [ax] at h1 h2
  obtain ⟨q,hq',rfl⟩:=Option.map_eq_some_iff.mp h2
  obtain ⟨m,_,t1,t2,hm',e,_⟩:=get i q hq'
  rw [hm'] at h1
  cases h1
  subst e
  exact ⟨rfl,t2,rfl⟩
 refine QQ (qs:=qs) (I.ok.hd hca) ho hc hdt hdc (by rw [hql];exact aG h1000 ⋯) (λq hq'=>?_) ndk (by simp;omega) (λi q hi=>?_) λh' tk keep dd=>?_
 ·obtain ⟨i,hi,e⟩:=List.mem_iff_getElem.mp hq'
  obtain ⟨m,b,t1,t2,h1,h2,_⟩:=get i q (by rw [ae hi,e])
  subst h2
  exact wR (k:=.inl m.1) ⟨t1,rfl⟩
 ·obtain ⟨m,b,t1,t2,h1,h2,h3,h4⟩:=get i q hi
  subst h2
  exact ⟨b,by simpa using h3,h4⟩
 ·have hf:=I.hok.fresh (ao s.heap.objs.size)
  exact ⟨.ref _,upd H s.heap.objs.size (.dK (ms.map λm=>((.inl m.1,.int m.2):Key×V))),I.laid (t':=tk) keep (ao _) (QV (by rw [ah];exact aG h1000 ⋯) (beq_eq_false_iff_ne.mpr (cq (aB I.big))) KVr dd),rfl,k _ _ hf j5 (jn.new hf)⟩
end L2
end
section
namespace L2
open PySem.W
theorem U5 {prog:Program}{w:aU}{A:bb}{E:af->Shared->Prop}{s:Shared}{it d:Addr}{i n ep:Nat}{o:Obj}{es:Array fZ}{e:fZ}{Q:Option af->Shared->Prop}(st:s.heap.IsKeyIter it d i n ep) (ho:s.heap.get? d=some o) (hd:o.data = .dict es ep) (hn:es.size=n) (he:es[i]? = some e) (h:∀h',h'.IsKeyIter it d (i+1) n ep->cw it s.heap h'->Q (some e.key) { s with heap:=h' }):au (aC prog w) A (eU (.ref it)) Q E s:=by
 unfold eU
 refine aa (i8 (bL st.typeIs cX ?_))
 refine fg cX st.typeIs ie (i4 _) (S:=λA' R' s'=>s'.heap.IsKeyIter it d i n ep/\s'.heap.get? d=some o/\∀h',h'.IsKeyIter it d (i+1) n ep->cw it s'.heap h'->R' (.ok (.ret e.key)) { s' with heap:=h' }) ?_ ⟨st,ho,λh' a b=>?_⟩
 ·clear st ho h
  rintro prog w A R s ⟨st,ho,h⟩
  refine aa ?_
  show au _ _ (pure (aQ it)) _ _ _
  refine wpAny_pure ?_
  refine aa ?_
  obtain ⟨oi,hoi,hci,hdi⟩:=id st
  refine aa (aa (cR st.typeIs (wpAny_pure ?_)))
  refine aa (rV hoi hdi ?_)
  show au _ _ (du (.ref d) >>= _) _ _ _
  refine aa ?_
  show au _ _ (pure d) _ _ _
  refine wpAny_pure ?_
  refine aa (lj ho hd ?_)
  show au _ _ (if ((es.size:Int) != (n:Int))=true then _ else _) _ _ _
  rw [if_neg (by simp [hn])]
  show au _ _ (du (.ref d) >>= _) _ _ _
  refine aa ?_
  show au _ _ (pure d) _ _ _
  refine wpAny_pure ?_
  refine aa (mh ho hd ?_)
  show au _ _ (if ((ep:Int) != (ep:Int))=true then _ else _) _ _ _
  rw [if_neg (by simp)]
  show au _ _ (pure (some (es,(i:Int)))) _ _ _
  refine wpAny_pure ?_
  have e1:(if (i:Int)<0 then none else es[(i:Int).toNat]?)=some e:=by rw [if_neg ∅,bw];exact he
  dsimp only
  rw [e1]
  dsimp only
  refine aa (aa (cR st.typeIs (wpAny_pure ?_)))
  refine aa (mn st.typeIs ?_)
  show au _ _ (sX (.ref it) 1 (bJ ((i:Int)+1)) >>= _) _ _ _
  refine aa (dH hoi hdi (show 1<4 by decide) ?_)
  have hs:cw it s.heap (s.heap.update it (cv λx_1=>x_1.setIfInBounds 1 (bJ ((i:Int)+1)))):=eV _ _ _
  have st':(s.heap.update it (cv λx_1=>x_1.setIfInBounds 1 (bJ ((i:Int)+1)))).IsKeyIter it d (i+1) n ep:=by
   obtain ⟨c0,dd,dt,sl⟩:=oi
   simp only at hci hdi
   subst hci hdi
   exact ⟨_,dr _ hoi rfl,rfl,by simp [cv,bJ]⟩
  have h:=h _ st' hs
  generalize s.heap.update it (cv λx_1=>x_1.setIfInBounds 1 (bJ ((i:Int)+1)))=h' at *
  refine aa (bN (aa (mn (s:={ s with heap:=h' }) st'.typeIs ?_)))
  show au _ _ (pure e.key) _ _ _
  refine wpAny_pure ?_
  show au _ _ (pure _) _ _ _
  refine wpAny_pure ?_
  exact h
 ·show au _ _ (pure (some e.key)) _ _ _
  exact wpAny_pure (h h' a b)
theorem JV {prog:Program}{w:aU}{A:bb}{E:af->Shared->Prop}{s:Shared}{it d:Addr}{i n ep:Nat}{o:Obj}{es:Array fZ}{Q:Option af->Shared->Prop}(hA:A.handled=none) (st:s.heap.IsKeyIter it d i n ep) (ho:s.heap.get? d=some o) (hd:o.data = .dict es ep) (hn:es.size=n) (he:es[i]? = none) (h:∀h',mJ it s.heap h'->Q none { s with heap:=h' }):au (aC prog w) A (eU (.ref it)) Q E s:=by
 unfold eU
 refine aa (i8 (bL st.typeIs cX ?_))
 refine fg cX st.typeIs ie (i4 _) (S:=λA' R' s'=>A'.handled=none/\s'.heap.IsKeyIter it d i n ep/\s'.heap.get? d=some o/\∀h' a oe,mJ it s'.heap h'->h'.get? a=some oe->oe.cls = .type "StopIteration" -> R' (.error (.ref a)) { s' with heap:=h' }) ?_ ⟨hA,st,ho,λh' a oe eb ha hc=>?_⟩
 ·clear st ho h hA
  rintro prog w A R s ⟨hA,st,ho,h⟩
  have hA1:A.in1.handled=none:=by simp [hA]
  refine aa ?_
  show au _ _ (pure (aQ it)) _ _ _
  refine wpAny_pure ?_
  refine aa ?_
  obtain ⟨oi,hoi,hci,hdi⟩:=id st
  refine aa (aa (cR st.typeIs (wpAny_pure ?_)))
  refine aa (rV hoi hdi ?_)
  show au _ _ (du (.ref d) >>= _) _ _ _
  refine aa ?_
  show au _ _ (pure d) _ _ _
  refine wpAny_pure ?_
  refine aa (lj ho hd ?_)
  show au _ _ (if ((es.size:Int) != (n:Int))=true then _ else _) _ _ _
  rw [if_neg (by simp [hn])]
  show au _ _ (du (.ref d) >>= _) _ _ _
  refine aa ?_
  show au _ _ (pure d) _ _ _
  refine wpAny_pure ?_
  refine aa (mh ho hd ?_)
  show au _ _ (if ((ep:Int) != (ep:Int))=true then _ else _) _ _ _
  rw [if_neg (by simp)]
  show au _ _ (pure (some (es,(i:Int)))) _ _ _
  refine wpAny_pure ?_
  have e1:(if (i:Int)<0 then none else es[(i:Int).toNat]?)=none:=by rw [if_neg ∅,bw];exact he
  dsimp only
  rw [e1]
  dsimp only
  refine aa (aa (cR st.typeIs (wpAny_pure ?_)))
  show au _ _ (sX (.ref it) 0 aS >>= _) _ _ _
  refine aa (dH hoi hdi (show 0<4 by decide) ?_)
  have hs:cw it s.heap (s.heap.update it (cv λx_1=>x_1.setIfInBounds 0 aS)):=eV _ _ _
  generalize s.heap.update it (cv λx_1=>x_1.setIfInBounds 0 aS)=h1 at *
  refine aa ?_
  unfold newExc
  refine aa (fK ?_ ⋯)
  refine aa ?_
  unfold mK
  refine aa (wpAny_pure (wpAny_pure ?_))
  refine bx ?_ (by show Array.size _<=_;rw [show ownMembersOf (.type "StopIteration") [] = #[] by rfl];show 6<=_;decide)
  refine wpAny_raiseNew_none hA1 ?_
  exact h _ _ _ (λb o hb hbo=>ai _ (ai _ ((hs.2 b hb).trans hbo))) (az _ rfl) rfl
 ·refine aa (pf (T:="StopIteration") (b:=true) ⟨oe,ha,hc⟩ (by rfl) ?_)
  exact wpAny_pure (h h' eb)
theorem Ue {prog:Program}{w:aU}{A:bb}{E:af->Shared->Prop}{s:Shared}{d:Addr}{ep:Nat}{o:Obj}{es:Array fZ}{Q:af->Shared->Prop}(hsys:(d == df)=false) (ho:s.heap.get? d=some o) (hx:o.ExactDict) (hd:o.data = .dict es ep) (h:Q (.ref s.heap.objs.size) { s with heap:=s.heap.push { cls:=.type "dict_keyiterator",data:=.fields #[.ref d,.int 0 0,.int es.size 0,.int ep 0] } }):au (aC prog w) A (lq (.ref d)) Q E s:=by
 have hT:s.TypeIs (.ref d) "dict":=⟨o,ho,hx.1⟩
 refine wpAny_pyIter_slot hT pq ?_
 refine fg pq hT F.entry_dict_iter (F.args_dict_iter_1 _) (S:=λA' R' s'=>s'.heap.get? d=some o/\R' (.ok (.ret (.ref s'.heap.objs.size))) { s' with heap:=s'.heap.push { cls:=.type "dict_keyiterator",data:=.fields #[.ref d,.int 0 0,.int es.size 0,.int ep 0] } }) ?_ ⟨ho,?_⟩
 ·clear ho h hT
  rintro prog w A R s ⟨ho,h⟩
  have hT:s.TypeIs (.ref d) "dict":=⟨o,ho,hx.1⟩
  unfold dO.«dict.__iter__»
  refine aa ?_
  unfold Builtin.Dict.dictSlotNone
  refine aa (mm hT ?_)
  show au _ _ (pure (aQ d)) _ _ _
  refine wpAny_pure ?_
  refine aa ?_
  show au _ _ (pure d) _ _ _
  refine wpAny_pure ?_
  refine aa ?_
  unfold Builtin.Dict.showsAll
  rw [if_neg (by rw [hsys];exact ar)]
  refine wpAny_pure ?_
  refine aa (lj ho hd ?_)
  refine aa (mh ho hd ?_)
  refine aa ?_
  refine bx ?_ (by show 4<=_;decide)
  show au _ _ (pure _) _ _ _
  exact wpAny_pure h
 ·refine ⟨"dict_keyiterator",_,⟨_,az _ rfl,rfl⟩,F.slot_dict_keyiterator_next.lookup,h⟩
theorem Vw {P:Program}{w:aU}{H H':Hp}{h:Heap}{a:Addr}{kvs:List (List Key×V)}(q:jW P w H h a (.dT kvs)) (ht:∀b ys,H b=some (.tup ys)->H' b=some (.tup ys)):jW P w H' h a (.dT kvs):=by
 obtain ⟨z,y,xs,r,yD⟩:=q
 exact ⟨z,y,xs,KT.keeps r ht,yD⟩
theorem Inv.freezeT {X:Cx}{pins:List (Addr×Obj)}{σ:St}{H:Hp}{s:Shared}{a:Addr}{o:Obj}{kvs:List (List Key×V)}(I:Inv X pins σ H s) (e:H a=some (.dT kvs)) (ho:s.heap.get? a=some o):Inv X pins σ (upd H a (.frz o (.dT kvs))) s:=by
 refine I.un (t':=s.toks) ⟨λb u q _ _ _=>q,λb u q _ _ _=>⟨u.slots,q⟩,λb u q n _=>?_,λb u q _=>⟨u,q⟩,λb xs q=>?_,λb u xs q=>?_,λb ps q=>⟨#[],?_⟩⟩ λb u q=>?_
 ·rw [j6 (λz=>by rw [z,e] at n;cases n)];exact n
 ·rw [j6 (ji q e (by intro z;cases z))];exact q
 ·rw [j6 (ji q e (by intro z;cases z))];exact q
 ·rw [j6 (ji q e (by intro z;cases z)),q];simp
 ·by_cases hb:b=a
  ·subst hb
   rw [j5] at q
   cases q
   exact ⟨ho,Vw (I.hok _ _ e) λc ys q=>by rw [j6 (ji q e (by intro z;cases z))];exact q⟩
  ·rw [j6 hb] at q
   exact (I.hok b u q).stay (λc v _ q=>q) (λc q=>by rw [j6 (ji q e (by intro z;cases z))];exact q) λc xs q=>by rw [j6 (ji q e (by intro z;cases z))];exact q
noncomputable def QC (a:Addr) (o:Obj) (kvs:List (List Key×V)):It :=
 ⟨λi H=>H a=some (.frz o (.dT kvs))/\i<kvs.length,λi H x H'=>H'=H/\∃q b,kvs[i]? = some q/\x = .ref b/\H b=some (.tup (q.1.map kV)),λi H=>H a=some (.frz o (.dT kvs))/\kvs.length<=i⟩
theorem Us {P:Program}{w:aU}{H:Hp}{h:Heap}{a:Addr}{o:Obj}{kvs:List (List Key×V)}{es:Array fZ}{ep:Nat}(q:jW P w H h a (.frz o (.dT kvs))) (hd:o.data = .dict es ep):h.get? a=some o/\es.size=kvs.length/\∀(i:Nat) (p:List Key×V),kvs[i]? = some p->∃(e:fZ) (b:Addr),es[i]? = some e/\e.key=aQ b/\H b=some (.tup (p.1.map kV)):=by
 obtain ⟨ho,z,y,xs,r,o',es',ep',h1,h2,h3,h4,h5⟩:=q
 rw [ho] at h1
 cases h1
 rw [hd] at h3
 cases h3
 have hl:kvs.length=xs.length:=aX r
 refine ⟨ho,?_,λi p hp=>?_⟩
 ·rw [<- bV,h4,ah,hl]
 ·obtain ⟨x,hx,e1,e2,_⟩:=Paired.get r hp
  refine ⟨entryOfKey (iH (jC P w)) x,x.2.1,?_,rfl,e2⟩
  rw [<- fS,h4,ax,hx]
  rfl
theorem Xo {P:Program}{w:aU}{K:ag}{tg:Expr}{a it:Addr}{o:Obj}{kvs:List (List Key×V)}{es:Array fZ}{ep:Nat}(hd:o.data = .dict es ep):Turn P w K tg (QC a o kvs) [it] it (λi h=>h.IsKeyIter it a i es.size ep) where
 mem:=by simp
 obj:=λi h st b hb=>by
  have e:b=it:=by simpa using hb
  subst e
  obtain ⟨o,e,c,d⟩:=st
  exact ⟨o,e,λv z=>by rw [d] at z;cases z⟩
 keep:=λi h h' st k=>st.at λo e=>k it (by simp) o e
 item:=by
  intro X hP hw hK hc i pins s σ H E I hf st hg
  subst hP hw hK
  obtain ⟨hq,hi⟩:=hg
  obtain ⟨ho,hsz,hat⟩:=Us (I.hok _ _ hq) hd
  obtain ⟨f0,f1,f2,f3,f4,f5⟩:=hf it (by simp)
  obtain ⟨e,b,he,ek,hb⟩:=hat i _ (ae hi)
  refine U5 st ho hd rfl he λh' st' sb=>?_
  have I1:Inv X pins σ H { s with heap:=h' }:=I.turned (t':=s.toks) (λb o hb e=>(sb.2 b hb).trans e) f0 f1 f3 f4 f5
  obtain ⟨ob,e',c,d⟩:=id st'
  exact ⟨e.key,rfl,gp (s:={ s with heap:=h' }) e' c d ⋯ ⟨.ref b,H,I1,ek,⟨rfl,_,b,ae hi,rfl,hb⟩,st',λb hb=>(hf b hb).1⟩⟩
 done:=by
  intro X hP hw hK hc i pins s σ H E I hf st hg
  subst hP hw hK
  obtain ⟨hq,hi⟩:=hg
  obtain ⟨ho,hsz,hat⟩:=Us (I.hok _ _ hq) hd
  obtain ⟨f0,f1,f2,f3,f4,f5⟩:=hf it (by simp)
  exact JV (I.ok.hd hc) st ho hd rfl (Array.getElem?_eq_none ∅) λh' eb=>⟨rfl,I.turned (t':=s.toks) (λb o hb e=>eb b o hb e) f0 f1 f3 f4 f5⟩
 self:=λ_ _ _ _ _ st h=>mO st h
noncomputable def G9 (td:TE):TI:=λσ H R=>td σ H λx H1=>∃a kvs,x = .ref a/\((H1 a=some (.dT kvs)/\∀o,R (QC a o kvs) (upd H1 a (.frz o (.dT kvs))))\/∃o,H1 a=some (.frz o (.dT kvs))/\R (QC a o kvs) H1)
theorem YR {X:Cx}{tg l:Expr}{td:TE}(hl:PE X l td):PI X tg l (G9 td):=by
 intro pins s σ H R I h
 refine thn (hl pins s σ H _ I h) λv s1 ⟨x,H1,I1,r1,a,kvs,e,q⟩=>?_
 subst e
 cases r1
 have main:∀{H2:Hp} {o:Obj},Inv X pins σ H2 s1->H2 a=some (.frz o (.dT kvs))->R (QC a o kvs) H2->au (aC X.prog X.w) X.A (lq (.ref a)) (PIE X pins σ tg R) X.xe s1:=λ{H2 o} I2 e2 q2=>by
  obtain ⟨ho,z,lo,xs,r,o',es,ep,h1,h2,h3,h4,h5⟩:=I2.hok _ _ e2
  rw [ho] at h1
  cases h1
  refine Ue lo ho h2 h3 ?_
  refine ⟨s1.heap.objs.size,[s1.heap.objs.size],_,_,H2,rfl,I2.kept (t':=s1.toks) λb o e=>ai _ e,Xo h3,⟨_,az _ rfl,rfl,rfl⟩,λb hb=>?_,q2⟩
  have e:b=s1.heap.objs.size:=by simpa using hb
  subst e
  exact I2.fpOk (ao _) (I2.hok.fresh (ao _))
 rcases q with ⟨e1,q1⟩ | ⟨o,e1,q1⟩
 ·obtain ⟨z,lo,xs,r,ob,es,ep,h1,h2⟩:=I1.hok _ _ e1
  exact main (I1.freezeT e1 h1) j5 (q1 ob)
 ·exact main I1 e1 q1
theorem Xe {a acc:Addr}{o:Obj}{kvs:List (List Key×V)}{g:TG}{ti:TT}{te:TE}{R:Hp->Prop}{σ:St}{H:Hp}(Pv:Nat->St->Hp->Prop) (h0:Pv 0 σ H) (hl:∀i σ H,i<=kvs.length->Pv i σ H->H a=some (.frz o (.dT kvs)))
  (hs:∀i q b σ H,kvs[i]? = some q->H b=some (.tup (q.1.map kV))->Pv i σ H->g (.ref b) σ H λσ3 H3=>ti σ3 H3 λok H4=>if ok=true then te σ3 H4 λv H5=>∃ys,H5 acc=some (.lst ys)/\ys.length<sizeLine/\Pv (i+1) σ3 (upd H5 acc (.lst (ys++[v]))) else Pv (i+1) σ3 H4)
  (hd:∀σ H,Pv kvs.length σ H->R H) :
  ∃W:Nat->Nat->St->Hp->Prop,(∃m,W 0 m σ H)/\∀i m σ' H',W i m σ' H' ->
   ((QC a o kvs).stop i H'/\R H')\/((QC a o kvs).go i H'/\∃NX:St->Hp->Prop,(∀σ2 H2,NX σ2 H2->∃m',m'<m/\W (i+1) m' σ2 H2) /\
    ∀x H2,(QC a o kvs).yld i H' x H2->g x σ' H2 λσ3 H3=>ti σ3 H3 λok H4=>if ok=true then te σ3 H4 λv H5=>∃ys,H5 acc=some (.lst ys)/\ys.length<sizeLine/\NX σ3 (upd H5 acc (.lst (ys++[v]))) else NX σ3 H4):=by
 refine ⟨λi m σ H=>m=kvs.length-i/\i<=kvs.length/\Pv i σ H,⟨kvs.length,by simp,aE _,h0⟩,?_⟩
 rintro i m σ H ⟨rfl,hi,p⟩
 have q:=hl i σ H hi p
 by_cases hlt:i<kvs.length
 ·refine .inr ⟨⟨q,hlt⟩,Pv (i+1),λσ' H' p'=>⟨kvs.length-(i+1),∅,rfl,hlt,p'⟩,λx H' y=>?_⟩
  obtain ⟨e,z,b,hz,ex,hb⟩:=y
  subst e ex
  exact hs i z b σ _ hz hb p
 ·obtain rfl:i=kvs.length:=∅
  exact .inl ⟨⟨q,ao _⟩,hd σ H p⟩
end L2
end
section
namespace L2
open PySem.W
noncomputable abbrev Cx.noX (X:Cx):Cx:={ X with xe:=λ_ _=>False }
section
variable {X:Cx}{pins:List (Addr×Obj)}{σ:St}{H:Hp}{s:Shared}
theorem Inv.toNoX (I:Inv X pins σ H s):Inv X.noX pins σ H s:=⟨okP I.ok _ rfl,I.os,I.bare,I.base,I.loc,I.cell,I.free,I.freeC,I.pin,I.hok,I.len⟩
theorem Inv.ofNoX (I:Inv X.noX pins σ H s):Inv X pins σ H s:=⟨okP I.ok _ rfl,I.os,I.bare,I.base,I.loc,I.cell,I.free,I.freeC,I.pin,I.hok,I.len⟩
theorem V3 {st:Stmt}{t:TS}(h:PS X.noX st t):PS X st t:=λpins s σ H D I q=>thn (wpAny_noRaise (h pins s σ H D I.toNoX q)) λ_ _ z=>spOf (λI=>I.ofNoX) z
end
end L2
end
section
namespace K19
open L2
local macro_rules | `(tactic| walk_at "hp")=>`(tactic| first | assumption | exact j5 | (rw [j6 (by first | assumption | (apply cq;assumption))];first | assumption | exact j5))
local macro_rules | `(tactic| walk_at "num")=>`(tactic| first | decide | omega)
local macro_rules | `(tactic| walk_at "rd1")=>`(tactic| first | refine ⟨_,rfl,?_⟩ | refine ⟨_,_,rfl,rfl,?_⟩ | refine fB (show Yp _ _ from fW ⟨by walk_at "num",by walk_at "num"⟩) ?_ | refine fB (show Yp _ _ from aP ⟨by walk_at "num",by walk_at "num"⟩) ?_ | refine fB (show Uz _ _ from ⟨by walk_at "num",by walk_at "num"⟩) ?_ | refine fB (show Gx _ _ from ⟨by walk_at "num",by walk_at "num",by walk_at "num"⟩) ?_ | refine fB (show (0:Int)<_ by walk_at "num") ?_ | refine ⟨_,_,_,_,rfl,rfl,SqL.of (by walk_at "hp"),(by rfl),?_⟩ | refine ⟨_,_,_,_,rfl,rfl,SqT.of (by walk_at "hp"),(by rfl),?_⟩ | refine ⟨_,_,_,_,rfl,rfl,(by assumption),(by rfl),?_⟩ | refine ⟨_,_,_,_,rfl,rfl,(by walk_at "hp"),(by rfl),?_⟩ | refine ⟨rfl,?_⟩)
local macro_rules | `(tactic| walk_at "r")=>`(tactic| repeat walk_at "rd1")
local macro_rules | `(tactic| walk_at "s")=>`(tactic| exact ⟨rfl,rfl,rfl,by decide +kernel,rfl,by decide +kernel,by decide +kernel⟩)
local macro_rules | `(tactic| walk_at "k")=>`(tactic| decide +kernel)
local macro_rules | `(())=>`(by omega)
local macro_rules | `(∅)=>`(by decide +kernel)
local macro_rules | `(tactic| walk_at "w")=>`(tactic| (intro _ z;cases z))
local macro_rules | `(tactic| walk_at "z")=>`(tactic| (intro z;cases z))
local macro_rules | `(tactic| left)=>`(tactic| walk_at "r")
noncomputable def top (i:Nat):Stmt:=PySem.Challenge.pw_firnfall_k19_where_hands_end.main.body.getD i (.Pass ⟨0,0,0,0⟩)
noncomputable abbrev zp:Stmt:=top 17
noncomputable abbrev yf:Stmt:=top 18
noncomputable abbrev vh:Stmt:=top 19
noncomputable abbrev Jv:Stmt:=top 20
noncomputable abbrev qV:Stmt:=top 21
noncomputable abbrev vg:Stmt:=top 22
noncomputable abbrev wk:Stmt:=top 23
noncomputable abbrev xw:Stmt:=top 24
noncomputable abbrev yK:Stmt:=top 25
noncomputable abbrev zY:Stmt:=top 30
noncomputable abbrev zZ:Stmt:=top 31
noncomputable abbrev wF:Stmt:=top 32
noncomputable abbrev y4:Stmt:=top 37
noncomputable abbrev zF:Stmt:=top 38
noncomputable abbrev zH:Stmt:=top 39
noncomputable abbrev qG:Stmt:=(xX (top 40) 0)
noncomputable abbrev xC:Stmt:=(xX (top 40) 4)
noncomputable abbrev xm:Stmt:=(xX (top 40) 5)
noncomputable abbrev zE:Stmt:=(xX (top 40) 6)
noncomputable abbrev zC:Stmt:=(xX (top 40) 7)
noncomputable abbrev yJ:Stmt:=(xX (top 40) 8)
noncomputable abbrev y9:Stmt:=(xX (top 40) 10)
noncomputable abbrev xH:Stmt:=(xX (top 40) 14)
noncomputable abbrev vc:Stmt:=(xX (top 40) 16)
noncomputable abbrev yL:Stmt:=top 42
noncomputable abbrev vk:Stmt:=top 43
noncomputable abbrev wA:Stmt:=top 44
noncomputable abbrev QR:Stmt:=top 45
noncomputable abbrev QF:Stmt:=top 47
noncomputable abbrev wB:Stmt:=top 48
noncomputable abbrev wK:Stmt:=top 50
noncomputable abbrev uC:Stmt:=top 52
noncomputable abbrev yC:Stmt:=top 53
noncomputable abbrev vz:Stmt:=top 54
noncomputable abbrev yA:Stmt:=top 55
noncomputable abbrev xR:Stmt:=top 56
noncomputable abbrev zI:Stmt:=top 57
noncomputable abbrev zo:Stmt:=top 58
noncomputable abbrev qm:Stmt:=top 59
noncomputable abbrev xf:Stmt:=top 60
noncomputable abbrev xN:Stmt:=top 61
noncomputable abbrev y6:Stmt:=top 62
noncomputable abbrev vp:Stmt:=top 63
noncomputable abbrev xQ:Stmt:=top 64
noncomputable abbrev vv:Stmt:=top 65
noncomputable abbrev uz:Stmt:=top 66
noncomputable abbrev vw:Stmt:=top 67
noncomputable abbrev yi:Stmt:=top 68
noncomputable abbrev zx:Stmt:=top 69
noncomputable abbrev zB:Stmt:=top 70
noncomputable abbrev vq:Stmt:=top 71
noncomputable abbrev yx:Stmt:=top 72
section
variable {P:Program}{w:aU}{K:ag}{mg:Str->Option af}{base:Heap}
noncomputable abbrev Wk:Pos:=⟨49,28,49,49⟩
noncomputable abbrev qB (H:Hp) (Pt:Addr):Prop:=Tab H Pt Wk (("lanes" : Str) ++ ".<locals>." ++ "<lambda>")
noncomputable def Zb:Sp:=λvs H Q _=>∃(i:Nat) (t:Int),vs=[.int i,.int t]/\Q (.bl (xE i t)) H
theorem Q5:FnScope ["number","to"] ["number","to"] (j8 vh):=by walk_at "s"
theorem JE {f:Addr}{fd:FuncData}(F:Fun K "leads_on" "leads_on" vh f fd):FnOk P w K mg base CX0 1 f fd ["number","to"] Zb:=by
 refine F.ok Q5 (λvs H Q E h=>?_) (λcdv A outer s H vs Q E hr h=>?_)
 ·obtain ⟨i,t,rfl,_⟩:=h
  rfl
 ·obtain ⟨i,t,rfl,k⟩:=h
  refine ⟨_,(j4 (qc (jD uF (pv 0) j7 (jK _)) (j9 (jm (zw uF (pv 1) (wm ve j7) (jK _)))) jw)
   (j9 (jm (zT qk yU j7 (pv 1) (pv 0))))),?_⟩
  have fin:∀b:Bool,b=xE i t->Q (.bl b) H:=λb e=>by rw [e];exact k
  left
  refine qO (λh1=>?_) (λh1=>?_)
  ·left
   have h1':i=0:=by have:=V.int.inj h1;omega
   refine fin _ ?_
   unfold xE
   rw [if_pos h1']
   exact decide_eq_decide.mpr ⟨λz=>V.int.inj z,λz=>by rw [z]⟩
  ·have h1':i≠0:=λz=>h1 (by rw [z];rfl)
   left
   refine qO (λh2=>?_) (λh2=>?_)
   ·left
    refine fin _ ?_
    unfold xE
    rw [if_neg h1']
    exact decide_eq_decide.mpr ⟨λz=>⟨h2,z⟩,λz=>z.2⟩
   ·refine fin _ ?_
    unfold xE
    rw [if_neg h1',decide_eq_false (λz=>h2 z.1)]
noncomputable def XM:Sp:=λvs H Q _=>∃(i:Nat) (v:V) (r:Rch),vs=[.int i,v]/\gU H v r/\r.2.length<=100/\∀H',jn H H'->Q (.bl (okR i r)) H'
theorem yr:FnScope ["number","reach","to","slope"] ["number","reach"] (j8 yf):=by walk_at "s"
theorem JJ {f:Addr}{fd:FuncData}{u0 u1:Tok}(nb:Nb2 mg) (g_MOST_HEIGHTS:mg "MOST_HEIGHTS" = some (.int 12 u0)) (g_GREATEST_HEIGHT:mg "GREATEST_HEIGHT" = some (.int 99 u1)) (c_leads_on:Cal P w K mg base 1 "leads_on" ["number","to"] Zb) (F:Fun K "is_reach" "is_reach" yf f fd):FnOk P w K mg base CX0 2 f fd ["number","reach"] XM:=by
 refine F.ok yr (λvs H Q E h=>?_) (λcdv A outer s H vs Q E hr h=>?_)
 ·obtain ⟨i,v,r,rfl,_⟩:=h
  rfl
 ·obtain ⟨i,v,⟨t,hs⟩,rfl,⟨p,g,rfl,hp,hg⟩,h100,k⟩:=h
  have h100':hs.length<=100:=h100
  have fin:∀(b:Bool) (H':Hp),jn H H'->b=okR i (t,hs)->Q (.bl b) H':=λb H' sm e=>by rw [e];exact k H' sm
  refine ⟨_,(j4 (zh (pv 1) (qx (n:=2) K rfl (jo (jb (i:=2) yr.nd rfl (aP rfl)) (jo (jb (i:=3) yr.nd rfl (aP rfl)) qw))))
   (j4 (qc (PW.pt (UC (xl (ya (jg c_leads_on (hr.mono ⋯) rfl (j0 (pv 0) (j0 (pv 2) j2))))) (YV (xl (xz qk qk j7 (je (jh K) rfl nb.b_len aV (j0 (pv 3) j2)) (xj (v:=V.int 12) rfl g_MOST_HEIGHTS ⟨_,rfl⟩)))))) (j9 (jm kT)) jw)
   (j9 (jm (je (zV K rfl) rfl nb.b_all oJ (j0 (jS (osc:=(j8 yf)) (ON:=["number","reach","to","slope"]) (N:=["height"]) (own:=1) (caps:=[]) ⟨rfl,∅,∅,∅,rfl,∅⟩ rfl rfl rfl (vD K (pv 3)) (λ_ _ _ _ _=>(jb (i:=0) (show bc (["height"]:List Str) by decide +kernel) rfl (aP rfl))) (λ_ _ _ _ _=>jH) (λ_ _ _ _ _=>(zT qk qk j7 (pv 0) (xj (v:=V.int 99) rfl g_GREATEST_HEIGHT ⟨_,rfl⟩)))) j2)))))),?_⟩
  left
  refine ⟨p,_,rfl,SqT.of hp,rfl,?_⟩
  refine ⟨_,_,rfl,_,_,rfl,rfl,?_⟩
  left
  refine ⟨i,t,rfl,?_⟩
  left
  cases hl:xE i t with
  | false =>
   refine yH ?_
   left
   exact fin _ H (jn.refl H) (by unfold okR;rw [hl];rfl)
  | true =>
   refine wH ?_
   left
   refine ⟨_,_,rfl,.inr (SqT.of hg),?_⟩
   left
   rw [ah]
   refine qO (λh1=>?_) (λh1=>?_)
   ·left
    refine zn (λh2=>?_) (λh2=>?_)
    ·left
     exact fin _ H (jn.refl H) (by unfold okR;rw [hl,decide_eq_false (λz=>h2 z.2)];rfl)
    ·left
     refine ⟨⟨_,SqT.of hg⟩,λacc hacc=>?_⟩
     refine Qk (K:=K) (a:=g) (xs:=hs.map V.int) (acc:=acc) (λj σ H2=>∃x:Option V,σ=[x]/\H2 acc=some (.lst (((hs.take j).map λx=>decide (0<=x/\x<=99)).map V.bl))/\Ext acc H H2) ?_ ?_ ?_ ?_
     ·exact ⟨none,rfl,j5,Ext.put⟩
     ·rintro j σ H2 hj ⟨x,rfl,h3,e3⟩
      exact SqT.of (e3 _ _ hg (j1 hg hacc))
     ·rintro j v σ H2 hv ⟨x,rfl,h3,e3⟩
      obtain ⟨z,rfl⟩:=yq hv
      have hz:hs[j]? = some z:=by
       rw [ax] at hv
       cases e:hs[j]? with
       | none=>rw [e] at hv;cases hv
       | some y=>rw [e] at hv;cases hv;rfl
      have hj:j<hs.length:=(List.getElem?_eq_some_iff.mp hz).1
      have done:∀b:Bool,b=decide (0<=z/\z<=99)->∃ys,H2 acc=some (.lst ys)/\ys.length<sizeLine/\∃x:Option V,[some (V.int z)]=[x]/\upd H2 acc (.lst (ys++[V.bl b])) acc=some (.lst (((hs.take (j+1)).map λx=>decide (0<=x/\x<=99)).map V.bl))/\Ext acc H (upd H2 acc (.lst (ys++[V.bl b]))):=λb e=>by
       refine ⟨_,h3,by rw [ah,ah,aM];exact jj (),_,rfl,?_,e3.trans Ext.put⟩
       rw [j5,qy (λx=>decide (0<=x/\x<=99)) hs j z hz,aA,e]
       rfl
      left
      refine qO (λh4=>?_) (λh4=>?_)
      ·left
       exact done _ (decide_eq_decide.mpr ⟨λy=>⟨h4,y⟩,λy=>y.2⟩)
      ·exact done _ (decide_eq_false λy=>h4 y.1).symm
     ·rintro σ H2 ⟨x,rfl,h3,e3⟩
      rw [ah,aZ] at h3
      refine ⟨acc,_,rfl,SqL.of h3,?_⟩
      refine fin _ H2 (λc o hc=>e3 c o hc (j1 hc hacc)) ?_
      unfold okR
      rw [hl,decide_eq_true (show (1<=(hs.length:Int)/\(hs.length:Int)<=12) from ⟨h1,h2⟩),fL]
      rfl
   ·refine ⟨_,rfl,yH ?_⟩
    left
    exact fin _ H (jn.refl H) (by unfold okR;rw [hl,decide_eq_false (λz=>h1 z.1)];rfl)
noncomputable def gq (K:ag):Sp:=λvs H Q _=>∃(p:Addr) (xs:List V) (rs:List Rch) (h:Nat),vs=[.ref p,.int h]/\H p=some (.lst xs)/\jU H xs rs/\xr rs/\h<rs.length/\rs.length<=100/\∀t H',H t=none->H' t=some (.tup ((qu rs h).map V.int))->jn H H'->Q (.ref t) H'
theorem zy:FnScope ["reaches","head","way","reach"] ["reaches","head"] (j8 vg):=by walk_at "s"
theorem Qu {f:Addr}{fd:FuncData}(nb:Nb2 mg) (F:Fun K "way_down" "way_down" vg f fd):FnOk P w K mg base CX0 1 f fd ["reaches","head"] (gq K):=by
 refine F.ok zy (λvs H Q E h=>?_) (λcdv A outer s H vs Q E hr h=>?_)
 ·obtain ⟨p,xs,rs,h,rfl,_⟩:=h
  rfl
 ·obtain ⟨p,xs,rs,h,rfl,hp,hrw,L,hh,h100,k⟩:=h
  refine ⟨_,(j4 (jx 2 zy.nd (jZ j2))
   (j4 (jx 3 zy.nd (pv 1))
   (j4 (Q7 aW (jD V0 (pv 3) j7 (jK _)) (j4 (jY (y3 K bz bD bE qA (pv 2) (j0 (pv 3) j2)))
   (j9 (jx 3 zy.nd (js (qC K) (js (jd K) (pv 0) (pv 3) (λ_ _=>rfl)) j7 (λ_ _=>rfl))))))
   (j9 (jm (qH (zi K) rfl nb.b_tuple cS (j0 (pv 2) j2))))))),?_⟩
  left
  refine ⟨aE _,λwy H1 hwy hwy1 s1=>?_⟩
  left
  have hlen:=hrw.length
  refine JD (λσ H2=>∃(pre:List Int) (r:Int),σ=[some (.ref p),some (.int h),some (.ref wy),some (.int r)]/\H2 wy=some (.lst (pre.map V.int))/\Ext wy H1 H2 /\ -1<=r/\r<rs.length/\pre.length+(r+1).toNat<=100/\pre++(if r<0 then [] else qu rs r.toNat)=qu rs h) (λσ H2=>match σ with | [_,_,_,some (.int r)]=>(r+1).toNat | _=>0) ?_ ?_ ?_
  ·refine ⟨[],h,rfl,hwy1,Ext.refl,(),(),by simp;omega,?_⟩
   rw [if_neg ()]
   rfl
  ·rintro σ H2 ⟨pre,r,rfl,hw2,e2,r0,r1,rl,heq⟩
   left
   refine qO (λhr0=>?_) (λhr0=>?_)
   ·have hp2:H2 p=some (.lst xs):=e2 _ _ (s1 _ _ hp) (j1 hp hwy)
    have hrw2:jU H2 xs rs:=hrw.keep ((jk.same s1).trans (jk.lst e2 hwy1))
    have hi:r.toNat<rs.length:=()
    obtain ⟨v,hv,q,g,rfl,hq,hg⟩:=hrw2.at (ae hi)
    have ht:=L.lt hi
    have ht2:=(wW (L _ hi)).2.1
    have et:=gX (ae hi)
    rw [et] at ht ht2
    generalize (rs[r.toNat]'hi).1=tt at ht ht2 et hq
    left
    refine ⟨.inl ⟨rfl,_,SqL.of hw2⟩,?_⟩
    left
    refine ⟨wy,_,_,rfl,rfl,hw2,by rw [ah];exact jj (),?_⟩
    have hne:q≠wy:=ji hq hw2 (by walk_at "z")
    have hp3:upd H2 wy (.lst (pre.map V.int++[.int r])) p=some (.lst xs):=by rw [j6 (j1 hp hwy)];exact hp2
    have hq3:upd H2 wy (.lst (pre.map V.int++[.int r])) q=some (.tup [.int tt,.ref g]):=by rw [j6 hne];exact hq
    left
    refine ⟨_,_,_,_,rfl,rfl,SqL.of hp3,x3 hr0 hv,?_⟩
    refine ⟨_,_,_,_,rfl,rfl,SqT.of hq3,rfl,?_⟩
    refine ⟨⟨pre++[r],tt,rfl,?_,e2.trans Ext.put,(),(),?_,?_⟩,?_⟩
    ·rw [j5,aA];rfl
    ·rw [aq,b9];omega
    ·rw [<- heq,if_neg (show ¬r<0 by omega),zt L hi,et,eJ]
     congr 1
     show r::_=_
     congr 1
     omega
    ·show (tt+1).toNat<(r+1).toNat
     omega
   ·rw [if_pos (),bp] at heq
    subst heq
    left
    refine ⟨wy,_,rfl,SqL.of hw2,λt H3 ht ht3 s3=>?_⟩
    exact k t H3 (s1.free (e2.free ht (λz=>by rw [z,hw2] at ht;cases ht))) ht3 (λc o hc=>s3 _ _ (e2 _ _ (s1 _ _ hc) (j1 hc hwy)))
  ·intro σ H2 Q1 Q2 hQ h
   obtain ⟨v,e,r⟩:=h
   obtain ⟨i,j,e1,e2,kk,e3,r⟩:=r
   exact ⟨v,e,i,j,e1,e2,kk,e3,hQ _ _ r⟩
noncomputable def Zd (K:ag):Sp:=λvs H Q _=>∃(p a:Addr) (xs:List V) (rs:List Rch) (way:List Int),vs=[.ref p,.ref a]/\H p=some (.lst xs)/\jU H xs rs/\(∀r∈rs,r.2.length<=100)/\H a=some (.tup (way.map V.int))/\(∀r∈way,0<=r/\r<rs.length)/\way.length<=100/\∀H',jn H H'->Q (.int (jy rs way)) H'
theorem uR:FnScope ["reaches","way"] ["reaches","way"] (j8 xw):=by walk_at "s"
theorem uW {f:Addr}{fd:FuncData}(nb:Nb2 mg) (F:Fun K "count_places" "count_places" xw f fd):FnOk P w K mg base CX0 1 f fd ["reaches","way"] (Zd K):=by
 refine F.ok uR (λvs H Q E h=>?_) (λcdv A outer s H vs Q E hr h=>?_)
 ·obtain ⟨p,a,xs,rs,way,rfl,_⟩:=h
  rfl
 ·obtain ⟨p,a,xs,rs,way,rfl,hp,hrw,h100,ha,hin,hwl,k⟩:=h
  have hlen:=hrw.length
  refine ⟨_,(j9 (jm (je (wO K rfl) rfl nb.b_sum sY (j0 (jS (osc:=(j8 xw)) (ON:=["reaches","way"]) (N:=["reach","reaches"]) (own:=1) (caps:=[0]) ⟨rfl,∅,∅,∅,rfl,∅⟩ rfl rfl rfl (vD K (pv 1)) (λ_ _ _ _ _=>(jb (i:=0) (show bc (["reach","reaches"]:List Str) by decide +kernel) rfl (aP rfl))) (λ_ _ _ _ _=>jH) (λ_ _ _ _ _=>(je (jh K) rfl nb.b_len aV (j0 (js (qC K) (js (jd K) (pv 1) (pv 0) (λ_ _=>rfl)) j7 (λ_ _=>rfl)) j2)))) j2)))),?_⟩
  left
  refine ⟨⟨_,SqT.of ha⟩,λacc hacc=>?_⟩
  refine Qk (K:=K) (a:=a) (xs:=way.map V.int) (acc:=acc) (λj σ H2=>∃x:Option V,σ=[x,some (.ref p)]/\H2 acc=some (.lst (((way.take j).map λr=>((zA rs r.toNat).length:Int)).map V.int))/\Ext acc H H2) ?_ ?_ ?_ ?_
  ·exact ⟨none,rfl,j5,Ext.put⟩
  ·rintro j σ H2 hj ⟨x,rfl,h3,e3⟩
   exact SqT.of (e3 _ _ ha (j1 ha hacc))
  ·rintro j v σ H2 hv ⟨x,rfl,h3,e3⟩
   obtain ⟨r,rfl⟩:=yq hv
   have hz:way[j]? = some r:=by
    rw [ax] at hv
    cases e:way[j]? with
    | none=>rw [e] at hv;cases hv
    | some y=>rw [e] at hv;cases hv;rfl
   have hj:j<way.length:=(List.getElem?_eq_some_iff.mp hz).1
   have hr:=hin r (aw hz)
   have hi:r.toNat<rs.length:=()
   obtain ⟨v,hv',q,g,rfl,hq,hg⟩:=(hrw.keep (jk.new e3 hacc)).at (ae hi)
   left
   refine ⟨_,_,_,_,rfl,rfl,SqL.of (e3 _ _ hp (j1 hp hacc)),x3 hr.1 hv',?_⟩
   refine ⟨_,_,_,_,rfl,rfl,SqT.of hq,rfl,?_⟩
   refine ⟨_,_,rfl,.inr (SqT.of hg),?_⟩
   refine ⟨_,h3,by rw [ah,ah,aM];exact jj (),_,rfl,?_,e3.trans Ext.put⟩
   rw [j5,qy (λr:Int=>((zA rs r.toNat).length:Int)) way j r hz,aA,Jx (ae hi),ah]
   rfl
  ·rintro σ H2 ⟨x,rfl,h3,e3⟩
   rw [ah,aZ] at h3
   refine ⟨acc,_,rfl,SqL.of h3,by rw [ah];omega,λn hn=>?_,?_⟩
   ·obtain ⟨r,hr,rfl⟩:=List.mem_map.mp hn
    have hb:=hin r hr
    have hi:r.toNat<rs.length:=()
    have:=h100 _ (bU hi)
    rw [Jx (ae hi)]
    omega
   ·exact k H2 λc o hc=>e3 c o hc (j1 hc hacc)
noncomputable def vB (K:ag) (Pt:Addr):Sp:=λvs H Q _=>∃(p:Addr) (xs:List V) (rs:List Rch),vs=[.ref p]/\H p=some (.lst xs)/\jU H xs rs/\xr rs/\rs.length<=60/\qB H Pt/\∀l H' out ws,H l=none->H' l=some (.lst out)->zQ H' out ws->jX rs ws->Ext Pt H H'->qB H' Pt->Q (.ref l) H'
theorem kB:FnScope ["reaches","entered","ways"] ["reaches"] (j8 qV):=by walk_at "s"
theorem Qg {α:Type}(l:List α) (d:α):((aF l.length).map λi=>l.getD i d)=l:=by
 apply lK
 ·simp
 ·intro i h1 h2
  simp [h2]
theorem gh {H:Hp}{vs:List V}{ws:List (List Int)}(h:zQ H vs ws):∀ix:List Nat,(∀i∈ix,i<vs.length)->zQ H (ix.map λi=>vs.getD i V.non) (ix.map λi=>ws.getD i [])
 | [],_=>.nil
 | i::ix,hb=>by
  refine .cons ?_ (gh h ix λj hj=>hb j (aD _ hj))
  have hi:=hb i aH
  obtain ⟨y,e2,a,e3,e4⟩:=Paired.get h (ae hi)
  refine ⟨a,?_,?_⟩
  ·show vs.getD i V.non=V.ref a
   rw [ak,ae hi];exact e3
  ·show H a=some (.tup ((ws.getD i []).map V.int))
   rw [ak,e2];exact e4
theorem J0 {rs:List Rch}{roads:List (List Int)}{vs out:List V}{H H':Hp}(hr:roads=(jq rs).map (qu rs)) (hv:zQ H vs roads) (k:jk H H') (hs:vW uU (λi=>(roads.getD i []).reverse) vs out):∃ws,zQ H' out ws/\jX rs ws:=by
 obtain ⟨ix,hp,e,hpw⟩:=hs
 have hb:∀i∈ix,i<vs.length:=λi hi=>by have:=hp.mem_iff.mp hi;simpa using this
 refine ⟨ix.map λi=>roads.getD i [],by rw [e];exact (gh hv ix hb).keep k,?_,?_⟩
 ·have:=hp.map λi=>roads.getD i []
  rw [hv.length,Qg] at this
  rw [<- hr]
  exact this
 ·rw [bP]
  exact hpw
theorem YN {f c Pt:Addr}{oc:af}{od an:Option Addr}{osl:Array (Option af)}{kV doc pm ct:af}(nb:Nb2 mg) (c_way_down:Cal P w K mg base 1 "way_down" ["reaches","head"] (gq K)) (CH:PySem.W.CodeHd base c Pt) (hBm:Bm mg base)
  (l:K.lookup f=some ⟨oc,od,.func (bB "lanes" "lanes" (qa qV) (jM qV) (j8 qV) .none kV doc pm an (.ref c) ct),osl⟩) (cd:cB K (.ref c) "lanes" = true) :
  FnOk P w K mg base CX0 5 f (bB "lanes" "lanes" (qa qV) (jM qV) (j8 qV) .none kV doc pm an (.ref c) ct) ["reaches"] (vB K Pt):=by
 refine Fun.okC l cd kB (λvs H Q E h=>?_) (λA outer s H vs Q E hr h=>?_)
 ·obtain ⟨p,xs,rs,rfl,_⟩:=h
  rfl
 ·obtain ⟨p,xs,rs,rfl,hp,hrw,L,h60,hT,k⟩:=h
  have hlen:=hrw.length
  refine ⟨_,(j4 (yy (i:=1) kB.nd rfl (fW rfl) (jS (osc:=(j8 qV)) (ON:=["reaches","entered","ways"]) (N:=["to","slope"]) (own:=2) (caps:=[]) ⟨rfl,∅,∅,∅,rfl,∅⟩ rfl rfl rfl (jT K (pv 0)) (λ_ _ _ _ _=>(qx (n:=2) K rfl (jo (jb (i:=0) (show bc (["to","slope"]:List Str) by decide +kernel) rfl (aP rfl)) (jo (jb (i:=1) (show bc (["to","slope"]:List Str) by decide +kernel) rfl (aP rfl)) qw)))) (λ_ _ _ _ _=>jH) (λ_ _ _ _ _=>(pv 0))))
   (j4 (J7 (j:=2) (osc:=(j8 qV)) (ON:=["reaches","entered","ways"]) (N:=["head","reaches","entered"]) (own:=1) (caps:=[0,1]) ⟨rfl,∅,∅,∅,rfl,∅⟩ kB.nd rfl (aP rfl) rfl rfl rfl (qd rfl nb.b_range (j0 (je (jh K) rfl nb.b_len aV (j0 (pv 0) j2)) j2)) (λ_ _ _ _ _=>(jb (i:=0) (show bc (["head","reaches","entered"]:List Str) by decide +kernel) rfl (aP rfl))) (λ_ _ _ _ _=>(zO (jD (xL K) (pv 0) (pv 2) (by with_unfolding_all rfl)))) (λ_ _ _ _ _=>(jg c_way_down (hr.mono ⋯) rfl (j0 (pv 1) (j0 (pv 0) j2)))))
   (j9 (jm (Xs (N:=["way"]) (x:="way") (k:=0) rfl nb.b_sorted (j0 (pv 2) j2) rfl CH hBm (hr.mono ⋯) (by walk_at "s") (λ_ _ _ _=>rfl) (λ_ _ _ _=>(VL K (pv 0)))))))),?_⟩
  left
  refine ⟨⟨_,SqL.of hp⟩,λen hen=>?_⟩
  refine qp (K:=K) (a:=p) (xs:=xs) (acc:=en) (λj σ H2=>∃x y:Option V,σ=[x,y]/\H2 en=some (.lst (((rs.take j).map (·.1)).map V.int))/\Ext en H H2) ?_ ?_ ?_ ?_
  ·exact ⟨none,none,rfl,j5,Ext.put⟩
  ·rintro j σ H2 hj ⟨x,y,rfl,h3,e3⟩
   exact SqL.of (e3 _ _ hp (j1 hp hen))
  ·rintro j v σ H2 hv ⟨x,y,rfl,h3,e3⟩
   obtain ⟨r,hr,q,g,rfl,hq,hg⟩:=(hrw.keep (jk.new e3 hen)).get hv
   have hj:j<rs.length:=(List.getElem?_eq_some_iff.mp hr).1
   left
   refine ⟨q,_,rfl,SqT.of hq,rfl,?_⟩
   refine ⟨_,_,rfl,_,_,rfl,rfl,?_⟩
   left
   refine ⟨_,h3,by rw [ah,ah,aM];exact jj (),_,_,rfl,?_,e3.trans Ext.put⟩
   rw [j5,qy (λr:Rch=>r.1) rs j r hr,aA]
   rfl
  ·rintro σ H2 ⟨x,y,rfl,h3,e3⟩
   rw [hlen,aZ] at h3
   have hp2:=e3 _ _ hp (j1 hp hen)
   have hrw2:jU H2 xs rs:=hrw.keep (jk.new e3 hen)
   have hT2:qB H2 Pt:=hT.extN hen e3
   left
   refine ⟨_,_,rfl,.inl (SqL.of hp2),?_⟩
   refine ⟨_,rfl,(),(),λwy hwy=>?_⟩
   rw [hlen]
   refine xn (lo:=0) (n:=((rs.length:Nat):Int).toNat) (acc:=wy) (λj σ H3=>∃(x:Option V) (vs:List V),σ=[x,some (.ref p),some (.ref en)]/\H3 wy=some (.lst vs)/\zQ H3 vs (((aF j).filter (jL rs)).map (qu rs))/\Ext wy H2 H3/\vs.length<=j) ?_ ?_ ?_
   ·exact ⟨none,[],rfl,j5,.nil,Ext.put,ao _⟩
   ·rintro j σ H3 hj ⟨x,vs,rfl,h4,w4,e4,l4⟩
    have hj':j<rs.length:=()
    have hen4:=e4 _ _ h3 (j1 h3 hwy)
    have hp4:=e4 _ _ hp2 (j1 hp2 hwy)
    have hrw4:jU H3 xs rs:=hrw2.keep (jk.new e4 hwy)
    have er:(aF (j+1)).filter (jL rs)=(aF j).filter (jL rs)++(if jL rs j=true then [j] else []):=by
     rw [cj,ck]
     congr 1
     by_cases z:jL rs j=true
     ·rw [if_pos z];simp [z]
     ·rw [if_neg z];simp [z]
    left
    refine ⟨en,_,rfl,.inl (SqL.of hen4),rfl,zK _,?_⟩
    left
    rw [dU,yI]
    refine zn (λhin=>?_) (λhin=>?_)
    ·have hb:jL rs j=true:=by unfold jL;rw [decide_eq_false (show ¬(j:Int)∈tos rs from hin)];rfl
     left
     refine ⟨p,xs,rs,j,rfl,hp4,hrw4,L,hj',(),λt H5 ht ht5 s5=>?_⟩
     have nt:t≠wy:=λz=>by rw [z,h4] at ht;cases ht
     have h5:=s5 _ _ h4
     refine ⟨vs,h5,jj (),_,vs++[.ref t],rfl,j5,?_,λc o hc n=>by rw [j6 n];exact s5 _ _ (e4 c o hc n),by rw [aq,b9];omega⟩
     rw [er,if_pos hb,aA]
     exact zQ.keep (jk.lst Ext.put h5) (cP (w4.keep (jk.same s5)) ⟨t,rfl,ht5⟩)
    ·have hb:¬jL rs j=true:=by unfold jL;rw [decide_eq_true (show (j:Int)∈tos rs from hin)];exact ar
     refine ⟨_,vs,rfl,h4,?_,e4,()⟩
     rw [er,if_neg hb,bp]
     exact w4
   ·rintro σ H3 ⟨x,vs,rfl,h4,w4,e4,l4⟩
    have hT3:qB H3 Pt:=hT2.extN hwy e4
    obtain ⟨ps,hPt⟩:=hT3.ne
    rw [bw] at w4 l4
    have hvl:=w4.length
    left
    refine ⟨hT3,wy,vs,λi=>((((jq rs).map (qu rs)).getD i []).reverse),rfl,SqL.of h4,(),λi hi z=>?_,λH5 X5 i v hv=>?_,λlo H5 out hlo hlo5 X5 T5 hs=>?_⟩
    ·have hi2:i<(jq rs).length:=by
      rw [ah] at hvl
      exact Nat.lt_of_lt_of_eq hi hvl
     have z2:((jq rs).map (qu rs)).getD i []=[]:=List.reverse_eq_nil_iff.mp z
     rw [ak,ax,ae hi2] at z2
     exact Uo _ z2
    ·obtain ⟨y,e2,a,rfl,ha⟩:=Paired.get w4 hv
     have ha5:=jk.tbl X5 hPt _ _ ha
     left
     refine ⟨a,_,rfl,SqT.of ha5,λq H6 hq hq6 s6=>⟨s6,q,rfl,?_⟩⟩
     show H6 q=some (.tup (((((jq rs).map (qu rs)).getD i []).reverse).map V.int))
     rw [hq6,ak,show ((jq rs).map (qu rs))[i]? = some y from e2,<- pw]
     rfl
    ·obtain ⟨ws,hw,hrd⟩:=J0 (rs:=rs) rfl w4 (jk.tbl X5 hPt) hs
     have wyP:wy≠Pt:=ji h4 hPt (by walk_at "z")
     have enP:en≠Pt:=ji (e4 _ _ h3 (j1 h3 hwy)) hPt (by walk_at "z")
     have hlo3:H lo=none:=by
      have a1:H2 lo=none:=e4.free hlo (λz=>by rw [z,h4] at hlo;cases hlo)
      exact e3.free a1 (λz=>by rw [z,h3] at a1;cases a1)
     exact k lo H5 out ws hlo3 hlo5 hw hrd (λc o hc n=>X5 _ _ (e4 _ _ (e3 _ _ hc (j1 hc hen)) (j1 (e3 _ _ hc (j1 hc hen)) hwy)) n) T5
noncomputable def Ym (K:ag):Sp:=λvs H Q _=>∃(p wl:Addr) (xs out:List V) (rs:List Rch) (ws:List (List Int)),vs=[.ref p,.ref wl]/\H p=some (.lst xs)/\jU H xs rs/\(∀r∈rs,r.2.length<=100)/\H wl=some (.lst out)/\zQ H out ws/\jX rs ws/\xr rs/\rs.length<=60 /\
 ∀H',jn H H'->Q (.bl (decide (((jq rs).length:Int)<=6) && (jq rs).all λh=>decide (jy rs (qu rs h)<=30))) H'
theorem U2:FnScope ["reaches","ways"] ["reaches","ways"] (j8 Jv):=by walk_at "s"
theorem VC {f:Addr}{fd:FuncData}{u0 u1:Tok}(nb:Nb2 mg) (g_MOST_LANES:mg "MOST_LANES" = some (.int 6 u0)) (g_LONGEST_LANE:mg "LONGEST_LANE" = some (.int 30 u1)) (c_count_places:Cal P w K mg base 1 "count_places" ["reaches","way"] (Zd K)) (F:Fun K "fits" "fits" Jv f fd):FnOk P w K mg base CX0 2 f fd ["reaches","ways"] (Ym K):=by
 refine F.ok U2 (λvs H Q E h=>?_) (λcdv A outer s H vs Q E hr h=>?_)
 ·obtain ⟨p,wl,xs,out,rs,ws,rfl,_⟩:=h
  rfl
 ·obtain ⟨p,wl,xs,out,rs,ws,rfl,hp,hrw,h100,hw,hws,hrd,L,h60,k⟩:=h
  have hwl:=hws.length
  have hrl:=hrd.length
  have hhl:(jq rs).length<=60:=by
   unfold jq
   exact aG (bX _ _) (by rw [bg];exact h60)
  have fin:∀(b:Bool) (H':Hp),jn H H'->b=(decide (((jq rs).length:Int)<=6) && (jq rs).all λh=>decide (jy rs (qu rs h)<=30))->Q (.bl b) H':=λb H' sm e=>by rw [e];exact k H' sm
  refine ⟨_,(j9 (jm (yc (zw qk (je (jh K) rfl nb.b_len aV (j0 (pv 1) j2)) (xj (v:=V.int 6) rfl g_MOST_LANES ⟨_,rfl⟩) (jK _)) (yp (je (zV K rfl) rfl nb.b_all oJ (j0 (jS (osc:=(j8 Jv)) (ON:=["reaches","ways"]) (N:=["way","reaches"]) (own:=1) (caps:=[0]) ⟨rfl,∅,∅,∅,rfl,∅⟩ rfl rfl rfl (jT K (pv 1)) (λ_ _ _ _ _=>(jb (i:=0) (show bc (["way","reaches"]:List Str) by decide +kernel) rfl (aP rfl))) (λ_ _ _ _ _=>jH) (λ_ _ _ _ _=>(zw qk (jg c_count_places (hr.mono ⋯) rfl (j0 (pv 1) (j0 (pv 0) j2))) (xj (v:=V.int 30) rfl g_LONGEST_LANE ⟨_,rfl⟩) (jK _)))) j2)))))),?_⟩
  left
  refine ⟨_,_,rfl,.inl (SqL.of hw),?_⟩
  left
  refine qO (λh1=>?_) (λh1=>?_)
  ·left
   refine ⟨⟨_,SqL.of hw⟩,λacc hacc=>?_⟩
   refine qp (K:=K) (a:=wl) (xs:=out) (acc:=acc) (λj σ H2=>∃x:Option V,σ=[x,some (.ref p)]/\H2 acc=some (.lst (((ws.take j).map λw=>decide (jy rs w<=30)).map V.bl))/\Ext acc H H2) ?_ ?_ ?_ ?_
   ·exact ⟨none,rfl,j5,Ext.put⟩
   ·rintro j σ H2 hj ⟨x,rfl,h3,e3⟩
    exact SqL.of (e3 _ _ hw (j1 hw hacc))
   ·rintro j v σ H2 hv ⟨x,rfl,h3,e3⟩
    obtain ⟨wy,ew,a,rfl,ha⟩:=Paired.get (hws.keep (jk.new e3 hacc)) hv
    have hj:j<ws.length:=(List.getElem?_eq_some_iff.mp ew).1
    obtain ⟨hd,hhd,ewy⟩:=hrd.mem (aw ew)
    have hdl:=xD hhd
    have hwlen:wy.length<=100:=by rw [ewy];have:=vY L hd hdl;omega
    left
    refine ⟨p,a,xs,rs,wy,rfl,e3 _ _ hp (j1 hp hacc),hrw.keep (jk.new e3 hacc),h100,ha,by rw [ewy];exact xM L hd hdl,hwlen,λH4 s4=>?_⟩
    left
    refine ⟨_,s4 _ _ h3,by rw [ah,ah,aM];exact jj (),_,rfl,?_,λc o hc n=>by rw [j6 n];exact s4 _ _ (e3 c o hc n)⟩
    rw [j5,qy (λw=>decide (jy rs w<=30)) ws j wy ew,aA]
    rfl
   ·rintro σ H2 ⟨x,rfl,h3,e3⟩
    rw [hwl,aZ] at h3
    refine ⟨acc,_,rfl,SqL.of h3,?_⟩
    refine fin _ H2 (λc o hc=>e3 c o hc (j1 hc hacc)) ?_
    rw [decide_eq_true (show ((jq rs).length:Int)<=6 by rw [<- hrl,<- hwl];exact h1),eC,hrd.all]
  ·refine fin _ H (jn.refl H) ?_
   rw [decide_eq_false (show ¬((jq rs).length:Int)<=6 by rw [<- hrl,<- hwl];exact h1)]
   rfl
noncomputable def Qy (K:ag) (Pt:Addr):Sp:=λvs H Q _=>∃(p:Addr) (xs:List V) (rs:List Rch),vs=[.ref p]/\H p=some (.lst xs)/\jU H xs rs/\(∀r∈rs,r.2.length<=100)/\rs.length<=60/\qB H Pt/\∀H',Ext Pt H H'->qB H' Pt->Q (.bl (zr rs)) H'
theorem gS:FnScope ["reaches"] ["reaches"] (j8 zp):=by walk_at "s"
theorem Jq {f Pt:Addr}{fd:FuncData}{u0:Tok}(nb:Nb2 mg) (g_MOST_REACHES:mg "MOST_REACHES" = some (.int 8 u0)) (c_is_reach:Cal P w K mg base 2 "is_reach" ["number","reach"] XM) (c_lanes:Cal P w K mg base 5 "lanes" ["reaches"] (vB K Pt)) (c_fits:Cal P w K mg base 2 "fits" ["reaches","ways"] (Ym K)) (F:Fun K "is_valley" "is_valley" zp f fd):FnOk P w K mg base CX0 6 f fd ["reaches"] (Qy K Pt):=by
 refine F.ok gS (λvs H Q E h=>?_) (λcdv A outer s H vs Q E hr h=>?_)
 ·obtain ⟨p,xs,rs,rfl,_⟩:=h
  rfl
 ·obtain ⟨p,xs,rs,rfl,hp,hrw,h100,h60,hT,k⟩:=h
  have hlen:=hrw.length
  have fin:∀(b:Bool) (H':Hp),Ext Pt H H'->qB H' Pt->b=zr rs->Q (.bl b) H':=λb H' x t e=>by rw [e];exact k H' x t
  refine ⟨_,(j4 (qc (xl (xz qk qk j7 (je (jh K) rfl nb.b_len aV (j0 (pv 0) j2)) (xj (v:=V.int 8) rfl g_MOST_REACHES ⟨_,rfl⟩))) (j9 (jm kT)) jw)
   (j4 (qc (xl (ya (je (zV K rfl) rfl nb.b_all oJ (j0 (jS (osc:=(j8 zp)) (ON:=["reaches"]) (N:=["number","reach"]) (own:=2) (caps:=[]) ⟨rfl,∅,∅,∅,rfl,∅⟩ rfl rfl rfl (J8 K rfl nb.b_enumerate (j0 (pv 0) j2)) (λ_ _ _ _ _=>(qx (n:=2) K rfl (jo (jb (i:=0) (show bc (["number","reach"]:List Str) by decide +kernel) rfl (aP rfl)) (jo (jb (i:=1) (show bc (["number","reach"]:List Str) by decide +kernel) rfl (aP rfl)) qw)))) (λ_ _ _ _ _=>jH) (λ_ _ _ _ _=>(jg c_is_reach (hr.mono ⋯) rfl (j0 (pv 0) (j0 (pv 1) j2))))) j2)))) (j9 (jm kT)) jw)
   (j9 (jm (jg c_fits (hr.mono ⋯) rfl (j0 (pv 0) (j0 (jg c_lanes (hr.mono ⋯) rfl (j0 (pv 0) j2)) j2))))))),?_⟩
  left
  refine ⟨_,_,rfl,.inl (SqL.of hp),?_⟩
  left
  have no:¬(1<=(xs.length:Int)/\(xs.length:Int)<=8)->Q (.bl false) H:=λz=>fin _ H Ext.refl hT (by unfold zr;rw [decide_eq_false (by rw [<- hlen];exact z)];rfl)
  refine qO (λh1=>?_) (λh1=>?_)
  ·left
   refine zn (λh2=>?_) (λh2=>?_)
   ·left
    exact no λz=>h2 z.2
   ·have h18:decide (1<=(rs.length:Int)/\(rs.length:Int)<=8)=true:=decide_eq_true (by rw [<- hlen];exact ⟨h1,h2⟩)
    left
    refine ⟨⟨_,SqL.of hp⟩,λacc hacc=>?_⟩
    refine Zv (K:=K) (a:=p) (xs:=xs) (acc:=acc) (λj σ H2=>∃x y:Option V,σ=[x,y]/\H2 acc=some (.lst ((((aF j)).map λi=>okR i (rs.getD i (-1,[]))).map V.bl))/\Ext acc H H2) ?_ ?_ ?_ ?_
    ·exact ⟨none,none,rfl,j5,Ext.put⟩
    ·rintro j σ H2 hj ⟨x,y,rfl,h3,e3⟩
     exact SqL.of (e3 _ _ hp (j1 hp hacc))
    ·rintro j v σ H2 t hv ⟨x,y,rfl,h3,e3⟩ ht
     have hacct:acc≠t:=λz=>by rw [z] at h3;rw [h3] at ht;cases ht
     obtain ⟨r,hr,hrow⟩:=(hrw.keep (jk.new e3 hacc)).get hv
     have hj:j<rs.length:=(List.getElem?_eq_some_iff.mp hr).1
     left
     refine ⟨t,_,rfl,SqT.of j5,rfl,?_⟩
     refine ⟨_,_,rfl,_,_,rfl,rfl,?_⟩
     left
     refine ⟨j,v,r,rfl,hrow.keep (jk.same (jn.new ht)),h100 r (aw hr),λH4 s4=>?_⟩
     refine ⟨_,s4 _ _ ((jn.new ht) _ _ h3),by rw [ah,ah,bg];exact jj (),_,_,rfl,?_,λc o hc n=>by rw [j6 n];exact s4 _ _ ((jn.new ht) _ _ (e3 c o hc n))⟩
     rw [j5,cj,aA,aA]
     simp only [aJ,eR]
     rw [ak,hr]
     rfl
    ·rintro σ H2 ⟨x,y,rfl,h3,e3⟩
     rw [hlen] at h3
     have sm:jn H H2:=λc o hc=>e3 c o hc (j1 hc hacc)
     refine ⟨acc,_,rfl,SqL.of h3,?_⟩
     left
     have eok:(((aF rs.length).map λi=>okR i (rs.getD i (-1,[]))).all λb=>b)=uD rs:=by rw [fL];rfl
     rw [eok]
     cases hok:uD rs with
     | false =>
      refine yH ?_
      left
      exact fin _ H2 (Ext.of_same sm) (hT.same sm) (by unfold zr;rw [hok,h18];rfl)
     | true =>
      refine wH ?_
      have L:=qe hok
      left
      refine ⟨p,xs,rs,rfl,sm _ _ hp,hrw.keep (jk.same sm),L,h60,hT.same sm,λl H3 out ws hl hl3 w3 r3 X3 T3=>?_⟩
      obtain ⟨ps,hPt⟩:=(hT.same sm).ne
      have hp3:=X3 _ _ (sm _ _ hp) (ji (sm _ _ hp) hPt (by walk_at "z"))
      refine ⟨p,l,xs,out,rs,ws,rfl,hp3,hrw.keep ((jk.same sm).trans (jk.tbl X3 hPt)),h100,hl3,w3,r3,L,h60,λH4 s4=>?_⟩
      exact fin _ H4 (((Ext.of_same sm).trans X3).trans (Ext.of_same s4)) (T3.same s4) (by unfold zr;rw [hok,h18];rfl)
  ·refine ⟨_,rfl,yH ?_⟩
   left
   exact no λz=>h1 z.1
theorem vN:FnScope ["_law_number","_law_turn","_law_one"] ["_law_number","_law_turn"] (j8 yC):=by walk_at "s"
theorem Vk {f:Addr}{fd:FuncData}(F:Fun K "_law_mixed" "_law_mixed" yC f fd):FnOk P w K mg base CX0 1 f fd ["_law_number","_law_turn"] Z4:=by
 refine F.ok vN (λvs H Q E h=>?_) (λcdv A outer s H vs Q E hr h=>?_)
 ·obtain ⟨a,b,rfl,_⟩:=h
  rfl
 ·obtain ⟨a,b,rfl,k⟩:=h
  refine ⟨_,(j4 (jx 2 vN.nd (jr xV (jr jN (jr jN (jr ul (pv 0) j7) (jr ul (pv 1) j7)) j7) j7))
   (j9 (jm (jr vP (jr xV (jr jN (jr jN (jr ul (pv 2) (jr jN (jr xV (pv 2) j7) j7)) (jr ul (pv 1) j7)) (jr xV (jr vP (pv 0) j7) j7)) j7) j7)))),?_⟩
  left
  exact k _
theorem yB:FnScope ["_law_box_here","_law_size","_law_left","_law_cell"] ["_law_box_here","_law_size"] (j8 vz):=by walk_at "s"
theorem VE {f:Addr}{fd:FuncData}(nb:Nb mg) (c_law_mixed:Cal P w K mg base 1 "_law_mixed" ["_law_number","_law_turn"] Z4) (F:Fun K "_law_take" "_law_take" vz f fd):FnOk P w K mg base CX0 2 f fd ["_law_box_here","_law_size"] zk:=by
 refine F.ok yB (λvs H Q E h=>?_) (λcdv A outer s H vs Q E hr h=>?_)
 ·obtain ⟨L,b,n,rfl,_⟩:=h
  rfl
 ·obtain ⟨L,b,n,rfl,B,⟨hn,hn2⟩,k⟩:=h
  obtain ⟨ns,a,r,c,d,hb,hL,hS,ha⟩:=B
  refine ⟨_,(j4 (zh (jr jN (js (jd K) (pv 0) j7 (λ_ _=>rfl)) j7) (Jd (pv 0) j7 ub))
   (j4 (qc (jD Uy (js (jd K) (pv 0) j7 (λ_ _=>rfl)) j7 (jK _)) (j4 (jx 2 yB.nd (js (jd K) (pv 0) j7 (λ_ _=>rfl)))
   (j4 (zh (jr vP (pv 2) (pv 1)) (Jd (pv 0) j7 ub))
   (j9 (jm (jr xV (pv 2) (pv 1)))))) jw)
   (j4 (qc (jD V0 (js (jd K) (pv 0) j7 (λ_ _=>rfl)) (je (jh K) rfl nb.b_len aV (j0 (js (jd K) (pv 0) j7 (λ_ _=>rfl)) j2)) (jK _)) (j9 (jm (jr xV (jg c_law_mixed (hr.mono ⋯) rfl (j0 (js (jd K) (pv 0) j7 (λ_ _=>rfl)) (j0 (js (jd K) (pv 0) j7 (λ_ _=>rfl)) j2))) (pv 1)))) jw)
   (j4 (jx 3 yB.nd (js (jd K) (js (jd K) (pv 0) j7 (λ_ _=>rfl)) (js (jd K) (pv 0) j7 (λ_ _=>rfl)) (λ_ _=>rfl)))
   (j4 (zh (jr jN (js (jd K) (pv 0) j7 (λ_ _=>rfl)) j7) (Jd (pv 0) j7 ub))
   (j4 (qc (jD yU (pv 3) (jr WF j7 j7) (jK _)) (j9 (jm (jr xV (jg c_law_mixed (hr.mono ⋯) rfl (j0 (pv 3) (j0 (js (jd K) (pv 0) j7 (λ_ _=>rfl)) j2))) (pv 1)))) jw)
   (j4 (zh (jr vP (pv 3) (pv 1)) (Jd (pv 0) j7 ub))
   (j9 (jm (jr xV (pv 3) (pv 1))))))))))),?_⟩
  left
  refine qO (λh1=>?_) (λh1=>?_)
  ·left
   exact k _ _ (eA _ ()) (dq _ hn) ⟨ns,_,_,_,_,j5,hL,(Ext.put.trans Ext.put) _ _ hS hL,ha⟩ (Ext.put.trans Ext.put)
  ·have hS1:∀o,SqL K (upd H b o) L (ns.map V.int):=λo=>SqL.of (Ext.put _ _ hS hL)
   left
   refine ⟨_,_,rfl,.inl (hS1 _),?_⟩
   left
   refine qO (λh2=>?_) (λh2=>?_)
   ·left
    refine ⟨_,_,rfl,λz=>?_⟩
    left
    exact k _ _ (eA _ ()) (dq _ hn) ⟨ns,_,_,_,_,j5,hL,Ext.put _ _ hS hL,ha⟩ Ext.put
   ·have h3:a<ns.length:=by
     rw [ah] at h2
     omega
    obtain ⟨z,hz⟩:=uA ha h3
    left
    refine ⟨_,_,_,_,rfl,rfl,hS1 _,hz,?_⟩
    left
    refine qO (λh4=>?_) (λh4=>?_)
    ·left
     refine ⟨_,_,rfl,λz=>?_⟩
     left
     exact k _ _ (eA _ ()) (dq _ hn) ⟨ns,_,_,_,_,j5,hL,(Ext.put.trans Ext.put) _ _ hS hL,()⟩ (Ext.put.trans Ext.put)
    ·left
     exact k _ _ (eA _ ()) (dq _ hn) ⟨ns,_,_,_,_,j5,hL,((Ext.put.trans Ext.put).trans Ext.put) _ _ hS hL,()⟩ ((Ext.put.trans Ext.put).trans Ext.put)
theorem yh:FnScope ["_law_script","_law_seed","_law_cell"] ["_law_script"] (j8 uC):=by walk_at "s"
theorem Wy {f:Addr}{fd:FuncData}(nb:Nb mg) (F:Fun K "_law_box" "_law_box" uC f fd):FnOk P w K mg base CX0 1 f fd ["_law_script"] (Vd K):=by
 refine F.ok yh (λvs H Q E h=>?_) (λcdv A outer s H vs Q E hr h=>?_)
 ·obtain ⟨a,ns,rfl,_⟩:=h
  rfl
 ·obtain ⟨a,ns,rfl,hS,k⟩:=h
  refine ⟨_,(j4 (jx 1 yh.nd j7)
   (j4 (qv aW rfl (jT K (pv 0)) (jb (i:=2) yh.nd rfl (aP rfl)) (j9 (jx 1 yh.nd (jr xV (jr jN (jr jN (jr ul (pv 1) j7) (jr xV (pv 2) j7)) j7) j7))))
   (j9 (jm (jZ (j0 (qH (qz K) rfl nb.b_list bQ (j0 (pv 0) j2)) (j0 j7 (j0 j7 (j0 j7 (j0 (pv 1) j2)))))))))),?_⟩
  left
  refine ⟨⟨_,hS⟩,zL (K:=K) (a:=a) (xs:=ns.map V.int) (λi σ H2=>∃(seed:Int) (v:Option V),σ=[some (.ref a),some (.int seed),v]/\H2=H) ⟨_,_,rfl,rfl⟩ (λi σ H2 _ ⟨_,_,_,e⟩=>by rw [e];exact hS) ?_ ?_⟩
  ·rintro i y σ H2 hi ⟨seed,v,rfl,rfl⟩
   obtain ⟨z,rfl⟩:=yq hi
   left
   exact ⟨_,_,rfl,rfl⟩
  ·rintro σ H2 ⟨seed,v,rfl,rfl⟩
   left
   refine ⟨a,_,rfl,.inl hS,λL H3 hL hL3 s3=>?_⟩
   left
   refine ⟨by show 5<=sizeLine;decide,λb H4 hb hb4 s4=>?_⟩
   exact k L b _ (s3.free hb) ⟨ns,_,_,_,_,hb4,j1 hL3 hb,s4 _ _ hL3,mP _⟩ (s3.trans s4)
noncomputable def good (t:T3):Bool:=decide (0<=t.1/\t.1<=100/\0<=t.2.1/\t.2.1<=9/\0<=t.2.2/\t.2.2<=9)
noncomputable def gr (ts:List T3):Bool:=decide (1<=(ts.length:Int)/\(ts.length:Int)<=12) && ts.all good
theorem Uv {ts:List T3}(h:¬(1<=(ts.length:Int)/\(ts.length:Int)<=12)):gr ts=false:=by unfold gr;rw [decide_eq_false h];rfl
theorem Wo {ts:List T3}(h:1<=(ts.length:Int)/\(ts.length:Int)<=12):gr ts=(ts.map good).all λb=>b:=by
 unfold gr
 rw [decide_eq_true h,eC,fL]
 rfl
noncomputable def QE:Sp:=λvs H Q _=>∃(p:Addr) (t:T3),vs=[.ref p]/\H p=some (yd t)/\Q (.bl (good t)) H
local macro_rules | `(tactic| walk_at "forks")=>`(tactic| (walk_at "r";first | (refine qO (fun _=>?_) (fun _=>?_) <;> walk_at "forks") | skip))
theorem xK:FnScope ["row","line","snow","sun"] ["row"] (j8 zY):=by walk_at "s"
theorem kJ {f:Addr}{fd:FuncData}{u0 u1:Tok}(g_HIGHEST_LINE:mg "HIGHEST_LINE" = some (.int 100 u0)) (g_MOST_HANDS:mg "MOST_HANDS" = some (.int 9 u1)) (F:Fun K "is_weather" "is_weather" zY f fd):FnOk P w K mg base CX0 1 f fd ["row"] QE:=by
 refine F.ok xK (λvs H Q E h=>?_) (λcdv A outer s H vs Q E hr h=>?_)
 ·obtain ⟨p,t,rfl,_⟩:=h
  rfl
 ·obtain ⟨p,⟨l,sn,u⟩,rfl,hp,k⟩:=h
  refine ⟨_,(j4 (zh (pv 0) (qx (n:=3) K rfl (jo (jb (i:=1) xK.nd rfl (aP rfl)) (jo (jb (i:=2) xK.nd rfl (aP rfl)) (jo (jb (i:=3) xK.nd rfl (aP rfl)) qw)))))
   (j9 (jm (yc (zT qk qk j7 (pv 1) (xj (v:=V.int 100) rfl g_HIGHEST_LINE ⟨_,rfl⟩)) (yc (zT qk qk j7 (pv 2) (xj (v:=V.int 9) rfl g_MOST_HANDS ⟨_,rfl⟩)) (yp (zT qk qk j7 (pv 3) (xj (v:=V.int 9) rfl g_MOST_HANDS ⟨_,rfl⟩)))))))),?_⟩
  left
  refine ⟨p,_,rfl,SqT.of hp,rfl,?_⟩
  refine ⟨_,_,rfl,_,_,rfl,_,_,rfl,rfl,?_⟩
  walk_at "forks"
  all_goals
   refine Eq.mp (congrArg (λz=>Q (V.bl z) H) ?_) k
   unfold good
   dsimp only at *
   first | (apply decide_eq_false;omega) | (apply decide_eq_decide.mpr;omega)
theorem Qb:FnScope ["rows"] ["rows"] (j8 zZ):=by walk_at "s"
noncomputable def XV (K:ag):Sp:=λvs H Q _=>∃(p:Addr) (xs:List V) (ts:List T3),vs=[.ref p]/\H p=some (.lst xs)/\jG H xs ts/\ts.length<=1000/\∀H',jn H H'->Q (.bl (gr ts)) H'
theorem JH {f:Addr}{fd:FuncData}{u0:Tok}(nb:Nb mg) (g_MOST_ROWS:mg "MOST_ROWS" = some (.int 12 u0)) (c_is_weather:Cal P w K mg base 1 "is_weather" ["row"] QE) (F:Fun K "is_round" "is_round" zZ f fd):FnOk P w K mg base CX0 2 f fd ["rows"] (XV K):=by
 refine F.ok Qb (λvs H Q E h=>?_) (λcdv A outer s H vs Q E hr h=>?_)
 ·obtain ⟨p,xs,ts,rfl,_⟩:=h
  rfl
 ·obtain ⟨p,xs,ts,rfl,hp,hr3,h1000,k⟩:=h
  have hlen:=hr3.length
  refine ⟨_,(j9 (jm (yc (zT qk qk j7 (je (jh K) rfl nb.b_len aV (j0 (pv 0) j2)) (xj (v:=V.int 12) rfl g_MOST_ROWS ⟨_,rfl⟩)) (yp (je (zV K rfl) rfl nb.b_all oJ (j0 (jS (osc:=(j8 zZ)) (ON:=["rows"]) (N:=["row"]) (own:=1) (caps:=[]) ⟨rfl,∅,∅,∅,rfl,∅⟩ rfl rfl rfl (jT K (pv 0)) (λ_ _ _ _ _=>(jb (i:=0) (show bc (["row"]:List Str) by decide +kernel) rfl (aP rfl))) (λ_ _ _ _ _=>jH) (λ_ _ _ _ _=>(jg c_is_weather (hr.mono ⋯) rfl (j0 (pv 0) j2)))) j2)))))),?_⟩
  left
  refine ⟨_,_,rfl,.inl (SqL.of hp),?_⟩
  left
  refine qO (λh1=>?_) (λh1=>?_)
  ·left
   refine qO (λh2=>?_) (λh2=>?_)
   ·left
    refine ⟨⟨_,SqL.of hp⟩,λacc hacc=>?_⟩
    refine qp (K:=K) (a:=p) (xs:=xs) (acc:=acc) (λi σ H2=>∃x:Option V,σ=[x]/\H2 acc=some (.lst (((ts.take i).map good).map V.bl))/\Ext acc H H2) ?_ ?_ ?_ ?_
    ·exact ⟨none,rfl,j5,Ext.put⟩
    ·rintro i σ H2 hi ⟨x,rfl,h3,e3⟩
     exact SqL.of (e3 _ _ hp (j1 hp hacc))
    ·rintro i v σ H2 hv ⟨x,rfl,h3,e3⟩
     obtain ⟨t,ht,q,rfl,hq⟩:=hr3.get hv
     have hi:i<ts.length:=(List.getElem?_eq_some_iff.mp ht).1
     left
     refine ⟨q,t,rfl,e3 _ _ hq (j1 hq hacc),?_⟩
     refine ⟨_,h3,by rw [ah,ah,aM];exact jj (),_,rfl,?_,e3.trans Ext.put⟩
     rw [j5,qy good ts i t ht,aA]
     rfl
    ·rintro σ H2 ⟨x,rfl,h3,e3⟩
     rw [hlen,aZ] at h3
     refine ⟨acc,ts.map good,rfl,SqL.of h3,?_⟩
     have k2:=k H2 λc o hc=>e3 c o hc (j1 hc hacc)
     rw [Wo (by rw [hlen] at h1 h2;exact ⟨h1,h2⟩)] at k2
     exact k2
   ·left
    have k2:=k H (jn.refl H)
    rw [Uv (by rw [hlen] at h2;intro z;exact h2 z.2)] at k2
    exact k2
  ·left
   have k2:=k H (jn.refl H)
   rw [Uv (by rw [hlen] at h1;intro z;exact h1 z.1)] at k2
   exact k2
noncomputable def uo:Sp:=λvs H Q _=>∃(L b:Addr),vs=[.ref b]/\qi L H b/\∀(p:Addr) (H':Hp) (t:T3),qi L H' b->Ext b H H'->H' p=some (yd t)->good t=true->Q (.ref p) H'
theorem yo:FnScope ["_law_box_here","_law_line"] ["_law_box_here"] (j8 zI):=by walk_at "s"
theorem five {v3 v1 v2:Int}(a:0<=v3) (b:v3<5) (c:0<=v1) (d:v1<20) (e:0<=v2) (g:v2<101):∃ln,atI [V.int (40+v1),V.int v2,V.int 0,V.int 100,V.int 50] v3=some (V.int ln)/\0<=ln/\ln<=100:=by
 have h:v3=0\/v3=1\/v3=2\/v3=3\/v3=4:=()
 rcases h with rfl | rfl | rfl | rfl | rfl
 ·exact ⟨40+v1,rfl,(),()⟩
 ·exact ⟨v2,rfl,(),()⟩
 ·exact ⟨0,rfl,(),()⟩
 ·exact ⟨100,rfl,(),()⟩
 ·exact ⟨50,rfl,(),()⟩
theorem Xl {f:Addr}{fd:FuncData}(c_law_take:Cal P w K mg base 2 "_law_take" ["_law_box_here","_law_size"] zk) (F:Fun K "_law_weather" "_law_weather" zI f fd):FnOk P w K mg base CX0 3 f fd ["_law_box_here"] uo:=by
 refine F.ok yo (λvs H Q E h=>?_) (λcdv A outer s H vs Q E hr h=>?_)
 ·obtain ⟨L,b,rfl,_⟩:=h
  rfl
 ·obtain ⟨L,b,rfl,B,k⟩:=h
  refine ⟨_,(j4 (jx 1 yo.nd (js (jd K) (jZ (j0 (jr jN j7 (jg c_law_take (hr.mono ⋯) rfl (j0 (pv 0) (j0 j7 j2)))) (j0 (jg c_law_take (hr.mono ⋯) rfl (j0 (pv 0) (j0 j7 j2))) (j0 j7 (j0 j7 (j0 j7 j2)))))) (jg c_law_take (hr.mono ⋯) rfl (j0 (pv 0) (j0 j7 j2))) (λ_ _=>rfl)))
   (j9 (jm (qK (j0 (pv 1) (j0 (jg c_law_take (hr.mono ⋯) rfl (j0 (pv 0) (j0 j7 j2))) (j0 (jg c_law_take (hr.mono ⋯) rfl (j0 (pv 0) (j0 j7 j2))) j2))))))),?_⟩
  left
  refine ⟨L,b,_,rfl,B,⟨⋯,⋯⟩,λv1 H1 p1 q1 B1 X1=>?_⟩
  left
  refine ⟨L,b,_,rfl,B1,⟨⋯,⋯⟩,λv2 H2 p2 q2 B2 X2=>?_⟩
  refine ⟨by show 5<=sizeLine;decide,λq Hq hq hqq sq=>?_⟩
  left
  refine ⟨L,b,_,rfl,B2.same sq,⟨⋯,⋯⟩,λv3 H3 p3 q3 B3 X3=>?_⟩
  have hq3:=X3 _ _ hqq (B2.ne hq)
  obtain ⟨ln,hln,l0,l1⟩:=five p3 q3 p1 q1 p2 q2
  refine ⟨_,_,_,_,rfl,rfl,SqL.of hq3,hln,?_⟩
  left
  refine ⟨L,b,_,rfl,B3,⟨⋯,⋯⟩,λv4 H4 p4 q4 B4 X4=>?_⟩
  left
  refine ⟨L,b,_,rfl,B4,⟨⋯,⋯⟩,λv5 H5 p5 q5 B5 X5=>?_⟩
  refine ⟨by show 3<=sizeLine;decide,λp Hp hp hpp sp=>?_⟩
  exact k p _ (ln,v4,v5) (B5.same sp) ((((((X1.trans X2).trans (Ext.of_same sq)).trans X3).trans X4).trans X5).trans (Ext.of_same sp)) hpp (decide_eq_true ⟨l0,l1,p4,(show v4<=9 by omega),p5,(show v5<=9 by omega)⟩)
noncomputable def uG:Sp:=λvs H Q _=>∃(L b:Addr),vs=[.ref b]/\qi L H b/\∀(p:Addr) (H':Hp) (xs:List V) (ts:List T3),qi L H' b->Ext b H H'->H p=none->H' p=some (.lst xs)->jG H' xs ts->(1<=ts.length/\ts.length<=12)->ts.all good=true->Q (.ref p) H'
theorem gW:FnScope ["_law_box_here"] ["_law_box_here"] (j8 zo):=by walk_at "s"
theorem G8 {v:Int}(a:0<=v) (b:v<3):∃n,atI [V.int 1,V.int 3,V.int 12] v=some (V.int n)/\0<n/\n<=12:=by
 have h:v=0\/v=1\/v=2:=()
 rcases h with rfl | rfl | rfl
 ·exact ⟨1,rfl,(),()⟩
 ·exact ⟨3,rfl,(),()⟩
 ·exact ⟨12,rfl,(),()⟩
theorem Yt {f:Addr}{fd:FuncData}(nb:Nb mg) (c_law_take:Cal P w K mg base 2 "_law_take" ["_law_box_here","_law_size"] zk) (c_law_weather:Cal P w K mg base 3 "_law_weather" ["_law_box_here"] uo) (F:Fun K "_law_round" "_law_round" zo f fd):FnOk P w K mg base CX0 4 f fd ["_law_box_here"] uG:=by
 refine F.ok gW (λvs H Q E h=>?_) (λcdv A outer s H vs Q E hr h=>?_)
 ·obtain ⟨L,b,rfl,_⟩:=h
  rfl
 ·obtain ⟨L,b,rfl,B,k⟩:=h
  refine ⟨_,(j9 (jm (jS (osc:=(j8 zo)) (ON:=["_law_box_here"]) (N:=["_law_turn","_law_box_here"]) (own:=1) (caps:=[0]) ⟨rfl,∅,∅,∅,rfl,∅⟩ rfl rfl rfl (qd rfl nb.b_range (j0 (jr jN j7 (jg c_law_take (hr.mono ⋯) rfl (j0 (pv 0) (j0 (js (jd K) (jZ (j0 j7 (j0 j7 (j0 j7 j2)))) (jg c_law_take (hr.mono ⋯) rfl (j0 (pv 0) (j0 j7 j2))) (λ_ _=>rfl)) j2)))) j2)) (λ_ _ _ _ _=>(jb (i:=0) (show bc (["_law_turn","_law_box_here"]:List Str) by decide +kernel) rfl (aP rfl))) (λ_ _ _ _ _=>jH) (λ_ _ _ _ _=>(jg c_law_weather (hr.mono ⋯) rfl (j0 (pv 1) j2)))))),?_⟩
  left
  refine ⟨by show 3<=sizeLine;decide,λq Hq hq hqq sq=>?_⟩
  left
  refine ⟨L,b,_,rfl,B.same sq,⟨⋯,⋯⟩,λv1 H1 p1 q1 B1 X1=>?_⟩
  obtain ⟨n,hn,n0,n1⟩:=G8 p1 q1
  refine ⟨_,_,_,_,rfl,rfl,SqL.of (X1 _ _ hqq (B.ne hq)),hn,?_⟩
  refine ⟨L,b,_,rfl,B1,⟨n0,()⟩,λv2 H2 p2 q2 B2 X2=>?_⟩
  refine ⟨_,_,rfl,rfl,?_⟩
  refine ⟨1+v2,rfl,(),(),λacc hacc=>?_⟩
  have nb1:=B2.ne hacc
  have nb2:=B2.neL hacc
  have hfree:∀a,H2 a=none->a≠b->H a=none:=λa n nb=>jn.free sq (X1.free (X2.free n nb) nb)
  refine xn (lo:=0) (n:=(1+v2).toNat) (acc:=acc) (λi σ H3=>∃(x:Option V) (xs:List V) (ts:List T3),σ=[x,some (.ref b)]/\qi L H3 b/\(∀c o,H2 c=some o->c≠b->H3 c=some o)/\H3 acc=some (.lst xs)/\jG H3 xs ts/\ts.length=i/\ts.all good=true) ?_ ?_ ?_
  ·exact ⟨none,[],[],rfl,B2.put nb1 nb2,λc o hc n=>Ext.put _ _ hc (j1 hc hacc),j5,.nil,rfl,rfl⟩
  ·rintro i σ H3 hi ⟨x,xs,ts,rfl,B3,ks,h3,r3,hl,hg⟩
   left
   refine ⟨L,b,rfl,B3,λp H4 t B4 X4 hp ht=>?_⟩
   have h4:=X4 _ _ h3 nb1
   have r4:jG H4 xs ts:=r3.imp λp t e=>X4 _ _ e (B3.ne_tup e)
   have hlen:=r4.length
   refine ⟨xs,h4,jj (),_,xs++[.ref p],ts++[t],rfl,B4.put nb1 nb2,λc o hc n=>Ext.put _ _ (X4 _ _ (ks c o hc n) n) (j1 hc hacc),j5,?_,by rw [aq,hl];rfl,by rw [List.all_append,hg];simp [ht]⟩
   exact jG.imp (r4.snoc ⟨p,rfl,hp⟩) λq t e=>Ext.put _ _ e (ji e h4 (by walk_at "z"))
  ·rintro σ H3 ⟨x,xs,ts,rfl,B3,ks,h3,r3,hl,hg⟩
   exact k acc H3 xs ts B3 (λc o hc n=>ks c o (X2 _ _ (X1 _ _ (sq _ _ hc) n) n) n) (hfree acc hacc nb1) h3 r3 () hg
theorem Jc:FnScope ["_law_found"] ["_law_found"] (j8 yA):=by walk_at "s"
theorem Vl {f:Addr}{fd:FuncData}(nb:Nb2 mg) (F:Fun K "_law_whole" "_law_whole" yA f fd):FnOk P w K mg base CX0 1 f fd ["_law_found"] Z1:=by
 refine F.ok Jc (λvs H Q E h=>?_) (λcdv A outer s H vs Q E hr h=>?_)
 ·obtain ⟨i,rfl,_⟩:=h
  rfl
 ·obtain ⟨i,rfl,k⟩:=h
  refine ⟨_,(j9 (jm (yc (je (jO K) rfl nb.b_isinstance c7 (j0 (pv 0) (j0 (xv (v:=V.ty "int") rfl nb.b_int mq rfl) j2))) (yp (UO (je (jO K) rfl nb.b_isinstance c7 (j0 (pv 0) (j0 (xv (v:=V.ty "bool") rfl nb.b_bool fO rfl) j2)))))))),?_⟩
  left
  refine ⟨_,_,_,_,rfl,.int _,wN K,_,rfl,yH ?_⟩
  left
  refine ⟨_,_,_,_,rfl,.int _,uE K,_,rfl,?_⟩
  exact k
theorem vK:FnScope ["_law_found","_law_due"] ["_law_found","_law_due"] (j8 xR):=by walk_at "s"
theorem Zp {f:Addr}{fd:FuncData}(F:Fun K "_law_alike" "_law_alike" xR f fd):FnOk P w K mg base CX0 1 f fd ["_law_found","_law_due"] (Um 0):=by
 refine F.ok vK (λvs H Q E h=>?_) (λcdv A outer s H vs Q E hr h=>?_)
 ·obtain ⟨x,y,d,rfl,_⟩:=h
  rfl
 ·obtain ⟨x,y,d,rfl,_,_,z,_⟩:=h
  cases z
theorem gm (n:Nat) {f:Addr}{fd:FuncData}(nb:Nb2 mg) (c_law_whole:Cal P w K mg base 1 "_law_whole" ["_law_found"] Z1) (c_law_alike:Cal P w K mg base (n+1) "_law_alike" ["_law_found","_law_due"] (Um n)) (F:Fun K "_law_alike" "_law_alike" xR f fd):FnOk P w K mg base CX0 (n+2) f fd ["_law_found","_law_due"] (Um (n+1)):=by
 refine F.ok vK (λvs H Q E h=>?_) (λcdv A outer s H vs Q E hr h=>?_)
 ·obtain ⟨x,y,d,rfl,_⟩:=h
  rfl
 ·obtain ⟨x,y,d,rfl,hx,hy,hs,k⟩:=h
  refine ⟨_,(j4 (qc (jD Xz (pv 1) Js (jK _)) (j9 (jm (zw Xz (pv 0) Js (jK _)))) jw)
   (j4 (qc (ya (je (jO K) rfl nb.b_isinstance c7 (j0 (pv 1) (j0 (xv (v:=V.ty "bool") rfl nb.b_bool fO rfl) j2)))) (j9 (jm (yc (je (jO K) rfl nb.b_isinstance c7 (j0 (pv 0) (j0 (xv (v:=V.ty "bool") rfl nb.b_bool fO rfl) j2))) (yp (zw uF (pv 0) (pv 1) (jK _)))))) jw)
   (j4 (qc (ya (je (jO K) rfl nb.b_isinstance c7 (j0 (pv 1) (j0 (xv (v:=V.ty "int") rfl nb.b_int mq rfl) j2)))) (j9 (jm (yc (jg c_law_whole (hr.mono ()) rfl (j0 (pv 0) j2)) (yp (zw uF (pv 0) (pv 1) (jK _)))))) jw)
   (j4 (qc (ya (je (jO K) rfl nb.b_isinstance c7 (j0 (pv 1) (j0 (xv (v:=V.ty "str") rfl nb.b_str mr rfl) j2)))) (j9 (jm (yc (je (jO K) rfl nb.b_isinstance c7 (j0 (pv 0) (j0 (xv (v:=V.ty "str") rfl nb.b_str mr rfl) j2))) (yp (zw uF (pv 0) (pv 1) (jK _)))))) jw)
   (j4 (qc (PW.pt (UC (jD Vc (je (jO K) rfl nb.b_isinstance c7 (j0 (pv 1) (j0 (xv (v:=V.ty "list") rfl nb.b_list bQ rfl) j2))) (je (jO K) rfl nb.b_isinstance c7 (j0 (pv 0) (j0 (xv (v:=V.ty "list") rfl nb.b_list bQ rfl) j2))) (jK _)) (YV (jD Vc (je (jO K) rfl nb.b_isinstance c7 (j0 (pv 1) (j0 (xv (v:=V.ty "tuple") rfl nb.b_tuple cS rfl) j2))) (je (jO K) rfl nb.b_isinstance c7 (j0 (pv 0) (j0 (xv (v:=V.ty "tuple") rfl nb.b_tuple cS rfl) j2))) (jK _))))) (j9 (jm kT)) jw)
   (j9 (jm (yc (zw uF (je (jh K) rfl nb.b_len aV (j0 (pv 0) j2)) (je (jh K) rfl nb.b_len aV (j0 (pv 1) j2)) (jK _)) (yp (je (zV K rfl) rfl nb.b_all oJ (j0 (jS (osc:=(j8 xR)) (ON:=["_law_found","_law_due"]) (N:=["_law_one","_law_other"]) (own:=2) (caps:=[]) ⟨rfl,∅,∅,∅,rfl,∅⟩ rfl rfl rfl (VW K rfl nb.b_zip (j0 (pv 0) (j0 (pv 1) j2))) (λ_ _ _ _ _=>(qx (n:=2) K rfl (jo (jb (i:=0) (show bc (["_law_one","_law_other"]:List Str) by decide +kernel) rfl (aP rfl)) (jo (jb (i:=1) (show bc (["_law_one","_law_other"]:List Str) by decide +kernel) rfl (aP rfl)) qw)))) (λ_ _ _ _ _=>jH) (λ_ _ _ _ _=>(jg c_law_alike (hr.mono ()) rfl (j0 (pv 0) (j0 (pv 1) j2))))) j2))))))))))),?_⟩
  cases d with
  | none =>
   cases hx;cases hy
   left
   exact k H (jn.refl _)
  | bool b =>
   cases hx;cases hy
   left
   refine ⟨_,_,_,_,rfl,.bl _,vI K,_,rfl,yH ?_⟩
   left
   refine ⟨_,_,_,_,rfl,.bl _,vI K,_,rfl,yH ?_⟩
   left
   have k':=k H (jn.refl _)
   rw [decide_eq_true rfl]
   exact k'
  | int i =>
   cases hx;cases hy
   left
   refine ⟨_,_,_,_,rfl,.int _,uE K,_,rfl,wH ?_⟩
   left
   refine ⟨_,_,_,_,rfl,.int _,wN K,_,rfl,yH ?_⟩
   left
   have k':=k H (jn.refl _)
   rw [decide_eq_true rfl]
   exact k'
  | str i =>
   cases hx;cases hy
   left
   refine ⟨_,_,_,_,rfl,.str _,Qm K,_,rfl,wH ?_⟩
   left
   refine ⟨_,_,_,_,rfl,.str _,XA K,_,rfl,wH ?_⟩
   left
   refine ⟨_,_,_,_,rfl,.str _,wj K,_,rfl,yH ?_⟩
   left
   refine ⟨_,_,_,_,rfl,.str _,wj K,_,rfl,yH ?_⟩
   left
   have k':=k H (jn.refl _)
   rw [decide_eq_true rfl]
   exact k'
  | list ds =>
   cases hx with
   | @lst a va _ ha da =>
   cases hy with
   | @lst b vb _ hb db =>
   have el:=da.length
   have el2:=db.length
   have hsm:ds.length<=1000/\ds.all (yF n)=true:=by
    have z:(decide (ds.length<=1000) && ds.all (yF n))=true:=hs
    rw [aY] at z
    exact ⟨of_decide_eq_true z.1,z.2⟩
   left
   refine ⟨_,_,_,_,rfl,.lst hb,Jp K,_,rfl,wH ?_⟩
   left
   refine ⟨_,_,_,_,rfl,.lst hb,JY K,_,rfl,wH ?_⟩
   left
   refine ⟨_,_,_,_,rfl,.lst hb,JR K,_,rfl,wH ?_⟩
   left
   refine ⟨_,_,_,_,rfl,.lst hb,vM K,?_⟩
   left
   refine ⟨_,_,_,_,rfl,.lst ha,vM K,?_⟩
   left
   refine ⟨_,_,_,_,rfl,.lst hb,yY K,?_⟩
   left
   refine ⟨_,_,_,_,rfl,.lst ha,yY K,?_⟩
   left
   refine ⟨_,_,rfl,.inl (SqL.of ha),?_⟩
   left
   refine ⟨_,_,rfl,.inl (SqL.of hb),?_⟩
   left
   rw [el,el2]
   refine qO (λ_=>?_) (λz=>absurd rfl z)
   left
   refine ⟨false,false,_,_,rfl,⟨_,SqL.of ha⟩,⟨_,SqL.of hb⟩,λacc hacc=>?_⟩
   refine gR (K:=K) (t0:=false) (u0:=false) (a:=a) (b:=b) (xs:=va) (ys:=vb) (acc:=acc) (el.trans el2.symm) (λj σ H2=>∃x y:Option V,σ=[x,y]/\H2 acc=some (.lst ((dh j true).map V.bl))/\Ext acc H H2) ?_ ?_ ?_ ?_
   ·exact ⟨none,none,rfl,j5,Ext.put⟩
   ·rintro j σ H2 hj ⟨x,y,rfl,h3,e3⟩
    exact ⟨SqL.of (e3 _ _ ha (j1 ha hacc)),SqL.of (e3 _ _ hb (j1 hb hacc))⟩
   ·rintro j x y σ H2 p hx hy ⟨v1,v2,rfl,h3,e3⟩ hp
    obtain ⟨d1,hd1,q1⟩:=da.get hx
    obtain ⟨d2,hd2,q2⟩:=db.get hy
    rw [hd1] at hd2
    cases hd2
    have hj:j<ds.length:=(List.getElem?_eq_some_iff.mp hd1).1
    have s2:jn H (upd H2 p (.tup [x,y])):=λc o hc=>(jn.new hp) _ _ (e3 _ _ hc (j1 hc hacc))
    have q1':=q1.same s2
    have q2':=q2.same s2
    have h3':upd H2 p (.tup [x,y]) acc=_:=(jn.new hp) _ _ h3
    have e3':Ext acc H (upd H2 p (.tup [x,y])):=λc o hc n=>(jn.new hp) _ _ (e3 _ _ hc n)
    have hp':upd H2 p (.tup [x,y]) p=some (.tup [x,y]):=j5
    generalize upd H2 p (.tup [x,y])=H4 at s2 q1' q2' h3' e3' hp'
    left
    refine ⟨p,_,rfl,SqT.of hp',rfl,?_⟩
    refine ⟨_,_,rfl,_,_,rfl,rfl,?_⟩
    left
    refine ⟨x,y,d1,rfl,q1',q2',List.all_eq_true.mp hsm.2 _ (aw hd1),λH5 s5=>?_⟩
    refine ⟨_,s5 _ _ h3',by rw [ah,eF];exact jj (),_,_,rfl,?_,λc o hc n=>by rw [j6 n];exact s5 _ _ (e3' c o hc n)⟩
    rw [j5,mQ,aA]
    rfl
   ·rintro σ H2 ⟨v1,v2,rfl,h3,e3⟩
    refine ⟨acc,_,rfl,SqL.of h3,?_⟩
    have e:((dh va.length true).all λb=>b)=true:=by
     rw [bM]
     intro x hx
     exact (List.mem_replicate.mp hx).2
    rw [e]
    exact k H2 λc o hc=>e3 c o hc (j1 hc hacc)
  | tuple ds =>
   cases hx with
   | @tup a va _ ha da =>
   cases hy with
   | @tup b vb _ hb db =>
   have el:=da.length
   have el2:=db.length
   have hsm:ds.length<=1000/\ds.all (yF n)=true:=by
    have z:(decide (ds.length<=1000) && ds.all (yF n))=true:=hs
    rw [aY] at z
    exact ⟨of_decide_eq_true z.1,z.2⟩
   left
   refine ⟨_,_,_,_,rfl,.tup hb,kH K,_,rfl,wH ?_⟩
   left
   refine ⟨_,_,_,_,rfl,.tup hb,Ja K,_,rfl,wH ?_⟩
   left
   refine ⟨_,_,_,_,rfl,.tup hb,Jr K,_,rfl,wH ?_⟩
   left
   refine ⟨_,_,_,_,rfl,.tup hb,yX K,?_⟩
   left
   refine ⟨_,_,_,_,rfl,.tup ha,yX K,?_⟩
   left
   refine ⟨_,_,_,_,rfl,.tup hb,yG K,?_⟩
   left
   refine ⟨_,_,_,_,rfl,.tup ha,yG K,?_⟩
   left
   refine ⟨_,_,rfl,.inr (SqT.of ha),?_⟩
   left
   refine ⟨_,_,rfl,.inr (SqT.of hb),?_⟩
   left
   rw [el,el2]
   refine qO (λ_=>?_) (λz=>absurd rfl z)
   left
   refine ⟨true,true,_,_,rfl,⟨_,SqT.of ha⟩,⟨_,SqT.of hb⟩,λacc hacc=>?_⟩
   refine gR (K:=K) (t0:=true) (u0:=true) (a:=a) (b:=b) (xs:=va) (ys:=vb) (acc:=acc) (el.trans el2.symm) (λj σ H2=>∃x y:Option V,σ=[x,y]/\H2 acc=some (.lst ((dh j true).map V.bl))/\Ext acc H H2) ?_ ?_ ?_ ?_
   ·exact ⟨none,none,rfl,j5,Ext.put⟩
   ·rintro j σ H2 hj ⟨x,y,rfl,h3,e3⟩
    exact ⟨SqT.of (e3 _ _ ha (j1 ha hacc)),SqT.of (e3 _ _ hb (j1 hb hacc))⟩
   ·rintro j x y σ H2 p hx hy ⟨v1,v2,rfl,h3,e3⟩ hp
    obtain ⟨d1,hd1,q1⟩:=da.get hx
    obtain ⟨d2,hd2,q2⟩:=db.get hy
    rw [hd1] at hd2
    cases hd2
    have hj:j<ds.length:=(List.getElem?_eq_some_iff.mp hd1).1
    have s2:jn H (upd H2 p (.tup [x,y])):=λc o hc=>(jn.new hp) _ _ (e3 _ _ hc (j1 hc hacc))
    have q1':=q1.same s2
    have q2':=q2.same s2
    have h3':upd H2 p (.tup [x,y]) acc=_:=(jn.new hp) _ _ h3
    have e3':Ext acc H (upd H2 p (.tup [x,y])):=λc o hc n=>(jn.new hp) _ _ (e3 _ _ hc n)
    have hp':upd H2 p (.tup [x,y]) p=some (.tup [x,y]):=j5
    generalize upd H2 p (.tup [x,y])=H4 at s2 q1' q2' h3' e3' hp'
    left
    refine ⟨p,_,rfl,SqT.of hp',rfl,?_⟩
    refine ⟨_,_,rfl,_,_,rfl,rfl,?_⟩
    left
    refine ⟨x,y,d1,rfl,q1',q2',List.all_eq_true.mp hsm.2 _ (aw hd1),λH5 s5=>?_⟩
    refine ⟨_,s5 _ _ h3',by rw [ah,eF];exact jj (),_,_,rfl,?_,λc o hc n=>by rw [j6 n];exact s5 _ _ (e3' c o hc n)⟩
    rw [j5,mQ,aA]
    rfl
   ·rintro σ H2 ⟨v1,v2,rfl,h3,e3⟩
    refine ⟨acc,_,rfl,SqL.of h3,?_⟩
    have e:((dh va.length true).all λb=>b)=true:=by
     rw [bM]
     intro x hx
     exact (List.mem_replicate.mp hx).2
    rw [e]
    exact k H2 λc o hc=>e3 c o hc (j1 hc hacc)
  | _=>cases hx
noncomputable def yS:Sp:=λvs H Q _=>∃(L b:Addr) (tp sz:Int),vs=[.ref b,.int tp,.int sz]/\qi L H b/\tp<=99/\0<=sz/\sz<=100/\∀p H' (hs:List Int),qi L H' b->Ext b H H'->H p=none->H' p=some (.lst (hs.map V.int))->(hs.length:Int)=sz->(∀x∈hs,0<=x/\x<=99)->Q (.ref p) H'
theorem xa:FnScope ["_law_box_here","_law_top","_law_size","_law_pick","_law_step"] ["_law_box_here","_law_top","_law_size"] (j8 qm):=by walk_at "s"
theorem uX {f:Addr}{fd:FuncData}(nb:Nb2 mg) (c_law_take:Cal P w K mg base 2 "_law_take" ["_law_box_here","_law_size"] zk) (F:Fun K "_law_ground_drawn" "_law_ground_drawn" qm f fd):FnOk P w K mg base CX0 3 f fd ["_law_box_here","_law_top","_law_size"] yS:=by
 refine F.ok xa (λvs H Q E h=>?_) (λcdv A outer s H vs Q E hr h=>?_)
 ·obtain ⟨L,b,tp,sz,rfl,_⟩:=h
  rfl
 ·obtain ⟨L,b,tp,sz,rfl,B,htp,h0,h1,k⟩:=h
  refine ⟨_,(j4 (jx 3 xa.nd (jg c_law_take (hr.mono ⋯) rfl (j0 (pv 0) (j0 j7 j2))))
   (j4 (qc (jD uF (pv 3) j7 (jK _)) (j9 (jm (jS (osc:=(j8 qm)) (ON:=["_law_box_here","_law_top","_law_size","_law_pick","_law_step"]) (N:=["_law_turn","_law_box_here"]) (own:=1) (caps:=[0]) ⟨rfl,∅,∅,∅,rfl,∅⟩ rfl rfl rfl (qd rfl nb.b_range (j0 (pv 2) j2)) (λ_ _ _ _ _=>(jb (i:=0) (show bc (["_law_turn","_law_box_here"]:List Str) by decide +kernel) rfl (aP rfl))) (λ_ _ _ _ _=>jH) (λ_ _ _ _ _=>(jg c_law_take (hr.mono ⋯) rfl (j0 (pv 1) (j0 j7 j2))))))) jw)
   (j4 (yy (i:=4) xa.nd rfl (fW rfl) (jr jN j7 (jg c_law_take (hr.mono ⋯) rfl (j0 (pv 0) (j0 j7 j2)))))
   (j9 (jm (jS (osc:=(j8 qm)) (ON:=["_law_box_here","_law_top","_law_size","_law_pick","_law_step"]) (N:=["_law_place","_law_top","_law_step"]) (own:=1) (caps:=[1,4]) ⟨rfl,∅,∅,∅,rfl,∅⟩ rfl rfl rfl (qd rfl nb.b_range (j0 (pv 2) j2)) (λ_ _ _ _ _=>(jb (i:=0) (show bc (["_law_place","_law_top","_law_step"]:List Str) by decide +kernel) rfl (aP rfl))) (λ_ _ _ _ _=>jH) (λ_ _ _ _ _=>(je (zU rfl) rfl nb.b_max oK (j0 j7 (j0 (jr qI (pv 1) (jr ul (pv 2) (pv 0))) j2)))))))))),?_⟩
  left
  refine ⟨L,b,_,rfl,B,⟨⋯,⋯⟩,λv1 H1 p1 q1 B1 X1=>?_⟩
  left
  refine qO (λ_=>?_) (λ_=>?_)
  ·left
   refine ⟨(),(),λacc hacc=>?_⟩
   have na1:=B1.ne hacc
   have na2:=B1.neL hacc
   refine xn (lo:=0) (n:=sz.toNat) (acc:=acc) (λi σ H2=>∃(x:Option V) (hs:List Int),σ=[x,some (.ref b)]/\qi L H2 b/\H2 acc=some (.lst (hs.map V.int))/\hs.length=i/\(∀x∈hs,0<=x/\x<=99)/\Ext b H1 H2) ?_ ?_ ?_
   ·exact ⟨none,[],rfl,B1.put na1 na2,j5,rfl,(by intro x hx;cases hx),Ext.new hacc⟩
   ·rintro i σ H2 hi ⟨x,hs,rfl,B2,h2,hl,hb,e2⟩
    left
    refine ⟨L,b,_,rfl,B2,⟨⋯,⋯⟩,λv H3 p3 q3 B3 X3=>?_⟩
    have h3:=X3 _ _ h2 na1
    refine ⟨_,h3,by rw [ah];exact jj (),_,hs++[v],rfl,B3.put na1 na2,by rw [j5,aA];rfl,by rw [aq,hl];rfl,λx hx=>?_,λc o hc n=>?_⟩
    ·rcases List.mem_append.mp hx with hx | hx
     ·exact hb x hx
     ·have:x=v:=by simpa using hx
      omega
    ·rw [j6 (j1 hc hacc)]
     exact X3 _ _ (e2 c o hc n) n
   ·rintro σ H2 ⟨x,hs,rfl,B2,h2,hl,hb,e2⟩
    exact k acc H2 hs B2 (X1.trans e2) (X1.free hacc na1) h2 () hb
  ·left
   refine ⟨L,b,_,rfl,B1,⟨⋯,⋯⟩,λv2 H2 p2 q2 B2 X2=>?_⟩
   left
   refine ⟨(),(),λacc hacc=>?_⟩
   have na1:=B2.ne hacc
   have na2:=B2.neL hacc
   refine xn (lo:=0) (n:=sz.toNat) (acc:=acc) (λi σ H3=>∃(x:Option V) (hs:List Int),σ=[x,some (.int tp),some (.int (1+v2))]/\qi L H3 b/\H3 acc=some (.lst (hs.map V.int))/\hs.length=i/\(∀x∈hs,0<=x/\x<=99)/\Ext b H2 H3) ?_ ?_ ?_
   ·exact ⟨none,[],rfl,B2.put na1 na2,j5,rfl,(by intro x hx;cases hx),Ext.new hacc⟩
   ·rintro i σ H3 hi ⟨x,hs,rfl,B3,h3,hl,hb,e3⟩
    left
    have hm:(0:Int)<=(1+v2)*(0+(i:Int)):=Int.mul_nonneg () ()
    refine ⟨_,_,rfl,?_⟩
    refine ⟨_,h3,by rw [ah];exact jj (),_,hs++[if tp-(1+v2)*(0+(i:Int)) > 0 then tp-(1+v2)*(0+(i:Int)) else 0],rfl,B3.put na1 na2,by rw [j5,aA];rfl,by rw [aq,hl];rfl,λx hx=>?_,λc o hc n=>?_⟩
    ·rcases List.mem_append.mp hx with hx | hx
     ·exact hb x hx
     ·have:x=if tp-(1+v2)*(0+(i:Int)) > 0 then tp-(1+v2)*(0+(i:Int)) else 0:=by simpa using hx
      rw [this]
      split <;> omega
    ·rw [j6 (j1 hc hacc)]
     exact e3 c o hc n
   ·rintro σ H3 ⟨x,hs,rfl,B3,h3,hl,hb,e3⟩
    have hacc1:=X2.free hacc na1
    exact k acc H3 hs B3 ((X1.trans X2).trans e3) (X1.free hacc1 na1) h3 () hb
structure RD (L b tp rw dp:Addr) (H0:Hp):Prop where
 tb:tp≠b
 rb:rw≠b
 db:dp≠b
 tL:tp≠L
 rL:rw≠L
 dL:dp≠L
 tr:tp≠rw
 td:tp≠dp
 rd:rw≠dp
 nt:H0 tp=none
 nr:H0 rw=none
 nd:H0 dp=none
structure RG (L b tp rw dp:Addr) (H0 H:Hp) (ts:List Int) (xs:List V) (rs:List Rch) (ds:List Int):Prop where
 box:qi L H b
 htp:H tp=some (.lst (ts.map V.int))
 hrw:H rw=some (.lst xs)
 hdp:H dp=some (.lst (ds.map V.int))
 rows:jU H xs rs
 ext:Ext b H0 H
section
variable {L b tp rw dp:Addr}{H0 H H':Hp}{ts ds:List Int}{xs:List V}{rs:List Rch}
theorem RG.take (D:RD L b tp rw dp H0) (G:RG L b tp rw dp H0 H ts xs rs ds) (B:qi L H' b) (X:Ext b H H'):RG L b tp rw dp H0 H' ts xs rs ds :=
 ⟨B,X _ _ G.htp D.tb,X _ _ G.hrw D.rb,X _ _ G.hdp D.db,G.rows.keep (by obtain ⟨ns,a,r,c,d,h1,_⟩:=G.box;exact jk.lst X h1),G.ext.trans X⟩
theorem RG.same (G:RG L b tp rw dp H0 H ts xs rs ds) (s:jn H H'):RG L b tp rw dp H0 H' ts xs rs ds :=
 ⟨G.box.same s,s _ _ G.htp,s _ _ G.hrw,s _ _ G.hdp,G.rows.keep (jk.same s),G.ext.trans (Ext.of_same s)⟩
theorem RG.extN {a:Addr}(G:RG L b tp rw dp H0 H ts xs rs ds) (hn:H a=none) (e:Ext a H H'):RG L b tp rw dp H0 H' ts xs rs ds:=G.same λc o h=>e c o h (j1 h hn)
theorem RG.putT (D:RD L b tp rw dp H0) (G:RG L b tp rw dp H0 H ts xs rs ds) (ts':List Int):RG L b tp rw dp H0 (upd H tp (.lst (ts'.map V.int))) ts' xs rs ds :=
 ⟨G.box.put D.tb D.tL,j5,by rw [j6 D.tr.symm];exact G.hrw,by rw [j6 D.td.symm];exact G.hdp,G.rows.keep (jk.lst Ext.put G.htp),λc o h n=>by rw [j6 (j1 h D.nt)];exact G.ext c o h n⟩
theorem RG.putR (D:RD L b tp rw dp H0) (G:RG L b tp rw dp H0 H ts xs rs ds) {v:V}{r:Rch}(q:gU H v r):RG L b tp rw dp H0 (upd H rw (.lst (xs++[v]))) ts (xs++[v]) (rs++[r]) ds :=
 ⟨G.box.put D.rb D.rL,by rw [j6 D.tr];exact G.htp,j5,by rw [j6 D.rd.symm];exact G.hdp,(G.rows.snoc q).keep (jk.lst Ext.put G.hrw),λc o h n=>by rw [j6 (j1 h D.nr)];exact G.ext c o h n⟩
theorem RG.putD (D:RD L b tp rw dp H0) (G:RG L b tp rw dp H0 H ts xs rs ds) (ds':List Int):RG L b tp rw dp H0 (upd H dp (.lst (ds'.map V.int))) ts xs rs ds' :=
 ⟨G.box.put D.db D.dL,by rw [j6 D.td];exact G.htp,by rw [j6 D.rd];exact G.hrw,j5,G.rows.keep (jk.lst Ext.put G.hdp),λc o h n=>by rw [j6 (j1 h D.nd)];exact G.ext c o h n⟩
end
noncomputable def xG (rs:List Rch):List Int:=(aF rs.length).map λi=>jy rs (qu rs i)
theorem JK {rs:List Rch}{t:Int}{hs:List Int}(G:Grown rs) (h0:0<=t) (h1:t<rs.length) (hx:okR rs.length (t,hs)=true):xG (rs++[(t,hs)])=xG rs++[jy rs (qu rs t.toNat)+hs.length]:=by
 have Ld:=qe G.ok
 unfold xG
 rw [aq,b9,cj,aA]
 congr 1
 ·apply dC
  intro i hi
  have hi':=List.mem_range.mp hi
  rw [yP Ld hi',xS _ (xM Ld i hi')]
 ·show [jy (rs++[(t,hs)]) (qu (rs++[(t,hs)]) rs.length)]=[_]
  rw [G.deep_snoc h0 h1 hx]
theorem ZG {rs:List Rch}{t:Int}(h0:0<=t) (h1:t<rs.length):atI ((xG rs).map V.int) t=some (.int (jy rs (qu rs t.toNat))):=by
 refine x3 h0 ?_
 unfold xG
 rw [ax,ax,cZ ()]
 rfl
theorem Uf {i:Nat}{t sz:Int}{hs:List Int}(hi:0<i) (h0:0<=t) (h1:t<i) (hl:(hs.length:Int)=sz) (hz0:1<=sz) (hz1:sz<=12) (hb:∀x∈hs,0<=x/\x<=99):okR i (t,hs)=true:=by
 unfold okR xE
 rw [if_neg (),decide_eq_true (show 0<=t/\t<(i:Int) from ⟨h0,h1⟩),decide_eq_true (show 1<=(hs.length:Int)/\(hs.length:Int)<=12 by omega),eC,eC,bM]
 intro x hx
 exact decide_eq_true (hb x hx)
noncomputable def wS:Sp:=λvs H Q _=>∃(L b:Addr),vs=[.ref b]/\qi L H b/\∀p H' xs rs,qi L H' b->Ext b H H'->H p=none->H' p=some (.lst xs)->jU H' xs rs->Grown rs->1<=rs.length->rs.length<=8->Q (.ref p) H'
theorem jE:FnScope ["_law_box_here","_law_tops","_law_sizes","_law_rows","_law_deep","_law_number","_law_to","_law_led","_law_heads","_law_size"] ["_law_box_here"] (j8 xf):=by walk_at "s"
theorem WD {v:Int}(a:0<=v) (b:v<3):∃n,atI [V.int 1,V.int 3,V.int 8] v=some (V.int n)/\0<n/\n<=8:=by
 have h:v=0\/v=1\/v=2:=()
 rcases h with rfl | rfl | rfl
 ·exact ⟨1,rfl,(),()⟩
 ·exact ⟨3,rfl,(),()⟩
 ·exact ⟨8,rfl,(),()⟩
theorem X0 {f:Addr}{fd:FuncData}(nb:Nb2 mg) (c_law_take:Cal P w K mg base 2 "_law_take" ["_law_box_here","_law_size"] zk) (c_law_ground_drawn:Cal P w K mg base 3 "_law_ground_drawn" ["_law_box_here","_law_top","_law_size"] yS) (F:Fun K "_law_reaches" "_law_reaches" xf f fd):FnOk P w K mg base CX0 4 f fd ["_law_box_here"] wS:=by
 refine F.ok jE (λvs H Q E h=>?_) (λcdv A outer s H vs Q E hr h=>?_)
 ·obtain ⟨L,b,rfl,_⟩:=h
  rfl
 ·obtain ⟨L,b,rfl,B,k⟩:=h
  refine ⟨_,(j4 (jx 1 jE.nd (jZ (j0 (jr jN j7 (jg c_law_take (hr.mono ⋯) rfl (j0 (pv 0) (j0 j7 j2)))) j2)))
   (j4 (jx 2 jE.nd (jZ (j0 (jr jN j7 (jg c_law_take (hr.mono ⋯) rfl (j0 (pv 0) (j0 j7 j2)))) j2)))
   (j4 (jx 3 jE.nd (jZ (j0 (qK (j0 (jr qI j7 j7) (j0 (qH (zi K) rfl nb.b_tuple cS (j0 (jg c_law_ground_drawn (hr.mono ⋯) rfl (j0 (pv 0) (j0 (js (jd K) (pv 1) j7 (λ_ _=>rfl)) (j0 (js (jd K) (pv 2) j7 (λ_ _=>rfl)) j2)))) j2)) j2))) j2)))
   (j4 (jx 4 jE.nd (jZ (j0 (js (jd K) (pv 2) j7 (λ_ _=>rfl)) j2)))
   (j4 (qv aW rfl (ZR rfl nb.b_range (j0 j7 (j0 (jr jN j7 (jg c_law_take (hr.mono ⋯) rfl (j0 (pv 0) (j0 (js (jd K) (jZ (j0 j7 (j0 j7 (j0 j7 j2)))) (jg c_law_take (hr.mono ⋯) rfl (j0 (pv 0) (j0 j7 j2))) (λ_ _=>rfl)) j2)))) j2))) (jb (i:=5) jE.nd rfl (aP rfl)) (j4 (jx 6 jE.nd (jg c_law_take (hr.mono ⋯) rfl (j0 (pv 0) (j0 (pv 5) j2))))
   (j4 (yy (i:=7) jE.nd rfl (fW rfl) (jS (osc:=(j8 xf)) (ON:=["_law_box_here","_law_tops","_law_sizes","_law_rows","_law_deep","_law_number","_law_to","_law_led","_law_heads","_law_size"]) (N:=["_law_row_here"]) (own:=1) (caps:=[]) ⟨rfl,∅,∅,∅,rfl,∅⟩ rfl rfl rfl (jT K (pv 3)) (λ_ _ _ _ _=>(jb (i:=0) (show bc (["_law_row_here"]:List Str) by decide +kernel) rfl (aP rfl))) (λ_ _ _ _ _=>jH) (λ_ _ _ _ _=>(js (qC K) (pv 0) j7 (λ_ _=>rfl)))))
   (j4 (jx 8 jE.nd (je (jh K) rfl nb.b_len aV (j0 (jS (osc:=(j8 xf)) (ON:=["_law_box_here","_law_tops","_law_sizes","_law_rows","_law_deep","_law_number","_law_to","_law_led","_law_heads","_law_size"]) (N:=["_law_one","_law_led"]) (own:=1) (caps:=[7]) ⟨rfl,∅,∅,∅,rfl,∅⟩ rfl rfl rfl (qd rfl nb.b_range (j0 (pv 5) j2)) (λ_ _ _ _ _=>(jb (i:=0) (show bc (["_law_one","_law_led"]:List Str) by decide +kernel) rfl (aP rfl))) (λ_ _ _ _ _=>(zO (jD (xL K) (pv 0) (pv 1) (by with_unfolding_all rfl)))) (λ_ _ _ _ _=>(pv 0))) j2)))
   (Jf (qc (PW.pt (UP (jD uF (pv 8) j7 (jK _)) (VF (jD (QK K) (pv 6) (pv 7) (by with_unfolding_all rfl))))) (j9 (jx 6 jE.nd (jr qI (pv 5) j7))) jw)
   (j9 (qc (jD yU (js (jd K) (pv 4) (pv 6) (λ_ _=>rfl)) j7 (jK _)) (j4 (jx 9 jE.nd (jr jN j7 (jg c_law_take (hr.mono ⋯) rfl (j0 (pv 0) (j0 (je (ur rfl) rfl nb.b_min sZ (j0 j7 (j0 (jr qI j7 (js (jd K) (pv 4) (pv 6) (λ_ _=>rfl))) j2))) j2)))))
   (j4 (jY (y3 K bz bD bE qA (pv 1) (j0 (je (ur rfl) rfl nb.b_min sZ (j0 j7 (j0 (jr jN (js (jd K) (pv 1) (pv 6) (λ_ _=>rfl)) (jg c_law_take (hr.mono ⋯) rfl (j0 (pv 0) (j0 j7 j2)))) j2))) j2)))
   (j4 (jY (y3 K bz bD bE qA (pv 3) (j0 (qK (j0 (pv 6) (j0 (qH (zi K) rfl nb.b_tuple cS (j0 (jg c_law_ground_drawn (hr.mono ⋯) rfl (j0 (pv 0) (j0 (js (jd K) (pv 1) (wm ve j7) (λ_ _=>rfl)) (j0 (pv 9) j2)))) j2)) j2))) j2)))
   (j9 (jY (y3 K bz bD bE qA (pv 4) (j0 (jr jN (js (jd K) (pv 4) (pv 6) (λ_ _=>rfl)) (pv 9)) j2))))))) (j9 (jm (pv 3))))))))))
   (j9 (jm (pv 3)))))))),?_⟩
  left
  refine ⟨L,b,_,rfl,B,⟨⋯,⋯⟩,λv1 H1 p1 q1 B1 X1=>?_⟩
  left
  refine ⟨by show 1<=sizeLine;decide,λtp H2 htp htp2 s2=>?_⟩
  have B2:=B1.same s2
  left
  refine ⟨L,b,_,rfl,B2,⟨⋯,⋯⟩,λv2 H3 p3 q3 B3 X3=>?_⟩
  have tb:=B1.ne htp
  have tL:=B1.neL htp
  left
  refine ⟨by show 1<=sizeLine;decide,λsz H4 hsz hsz4 s4=>?_⟩
  have B4:=B3.same s4
  have htp4:=s4 _ _ (X3 _ _ htp2 tb)
  left
  refine ⟨L,b,20+v1,1+v2,rfl,B4,(),(),(),λgl H5 hs B5 X5 hgl hgl5 hl hb=>?_⟩
  have szb:=B3.ne hsz
  have htp5:=X5 _ _ htp4 tb
  have hsz5:=X5 _ _ hsz4 szb
  refine ⟨gl,_,rfl,SqL.of hgl5,λgt H6 hgt hgt6 s6=>?_⟩
  refine ⟨by show 2<=sizeLine;decide,λrt H7 hrt hrt7 s7=>?_⟩
  refine ⟨by show 1<=sizeLine;decide,λrw H8 hrw hrw8 s8=>?_⟩
  have B8:=((B5.same s6).same s7).same s8
  have sm58:jn H5 H8:=(s6.trans s7).trans s8
  have hsz8:=sm58 _ _ hsz5
  have htp8:=sm58 _ _ htp5
  have hrw5:H5 rw=none:=(s6.trans s7).free hrw
  have B7:=(B5.same s6).same s7
  have rb:=B7.ne hrw
  have rL:=B7.neL hrw
  have tr:tp≠rw:=j1 ((s6.trans s7) _ _ htp5) hrw
  left
  refine ⟨by show 1<=sizeLine;decide,λdp H9 hdp hdp9 s9=>?_⟩
  have db:=B8.ne hdp
  have dL:=B8.neL hdp
  have td:tp≠dp:=j1 htp8 hdp
  have rd:rw≠dp:=j1 hrw8 hdp
  have nz:∀a,H8 a=none->a≠b->a≠L->H a=none:=λa ha ab aL=>by
   have a5:=sm58.free ha
   have a4:=X5.free a5 ab
   exact X1.free (s2.free (X3.free (s4.free a4) ab)) ab
  have nt:H tp=none:=X1.free htp tb
  have nr:H rw=none:=X1.free (s2.free (X3.free (s4.free (X5.free hrw5 rb)) rb)) rb
  have nd:H dp=none:=nz dp hdp db dL
  have D:RD L b tp rw dp H:=⟨tb,rb,db,tL,rL,dL,tr,td,rd,nt,nr,nd⟩
  have ok0:uD [((0-1:Int),hs)]=true:=by
   unfold uD okR xE
   simp only [b9,List.range_one,n5,List.all_nil,Bool.and_true]
   show (decide ((0-1:Int) = -1) && decide (1<=(hs.length:Int)/\(hs.length:Int)<=12) && hs.all λx=>decide (0<=x/\x<=99))=true
   rw [decide_eq_true (show 1<=(hs.length:Int)/\(hs.length:Int)<=12 by omega),aY,bM]
   exact ⟨rfl,λx hx=>decide_eq_true (hb x hx)⟩
  have rd0:qu [((0-1:Int),hs)] 0=[0]:=rfl
  have pl0:jy [((0-1:Int),hs)] [0]=hs.length:=by unfold jy;simp [zA]
  have G0:Grown [((0-1:Int),hs)]:=by
   refine ⟨ok0,aG (bX _ _) (by simp),λi hi=>?_⟩
   have:i=0:=by simp at hi;exact hi
   subst this
   rw [rd0,pl0]
   omega
  have ext8:Ext b H H8:=((((X1.trans (Ext.of_same s2)).trans X3).trans (Ext.of_same s4)).trans X5).trans (Ext.of_same sm58)
  have RG0:RG L b tp rw dp H H9 [20+v1] [.ref rt] [((0-1:Int),hs)] (xG [((0-1:Int),hs)]):=by
   refine ⟨B8.same s9,s9 _ _ htp8,s9 _ _ hrw8,?_,.cons ⟨rt,gt,rfl,s9 _ _ (s8 _ _ hrt7),s9 _ _ (s8 _ _ (s7 _ _ hgt6))⟩ .nil,ext8.trans (Ext.of_same s9)⟩
   rw [hdp9]
   show some (HO.lst [V.int (1+v2)])=some (.lst [V.int (jy [((0-1:Int),hs)] (qu [((0-1:Int),hs)] 0))])
   rw [rd0,pl0,hl]
  left
  refine ⟨by show 3<=sizeLine;decide,λq3' H10 hq hq10 s10=>?_⟩
  have RG1:=RG0.same s10
  left
  refine ⟨L,b,_,rfl,RG1.box,⟨⋯,⋯⟩,λv3 H11 p11 q11 B11 X11=>?_⟩
  have RG2:=RG1.take D B11 X11
  have hq11:=X11 _ _ hq10 (RG0.box.ne hq)
  obtain ⟨n,hn,n0,n8⟩:=WD p11 q11
  refine ⟨_,_,_,_,rfl,rfl,SqL.of hq11,hn,?_⟩
  refine ⟨L,b,_,rfl,B11,⟨n0,()⟩,λv4 H12 p12 q12 B12 X12=>?_⟩
  have RG3:=RG2.take D B12 X12
  left
  refine ⟨1,1+v4,rfl,⟨(),(),(),()⟩,?_⟩
  have ht99:∀t∈[20+v1],t<=99:=λt ht=>by
   have:t=20+v1:=by simpa using ht
   omega
  have done:∀(H':Hp) ts xs rs ds,RG L b tp rw dp H H' ts xs rs ds->Grown rs->1<=rs.length->rs.length<=8->Q (.ref rw) H':=λH' ts xs rs ds G gr h1 h8=>k rw H' xs rs G.box G.ext nr G.hrw G.rows gr h1 h8
  refine qU (lo:=1) (n:=(1+v4-1).toNat) (λi σ H'=>∃(v5 v6 v7 v8 v9:Option V) (ts:List Int) (xs:List V) (rs:List Rch),σ=[some (.ref b),some (.ref tp),some (.ref sz),some (.ref rw),some (.ref dp),v5,v6,v7,v8,v9]/\RG L b tp rw dp H H' ts xs rs (xG rs)/\Grown rs/\rs.length=i+1/\ts.length=i+1/\∀t∈ts,t<=99) ⟨_,_,_,_,_,_,_,_,rfl,RG3,G0,rfl,rfl,ht99⟩ ?_ ?_
  ·rintro i σ H' hi ⟨v5,v6,v7,v8,v9,ts,xs,rs,rfl,G,gr,hrl,htl,htb⟩
   have Ld:=qe gr.ok
   have hxl:=G.rows.length
   left
   refine ⟨L,b,_,rfl,G.box,⟨(),()⟩,λt Ha ha0 ha1 Ba Xa=>?_⟩
   have Ga:=G.take D Ba Xa
   left
   refine ⟨⟨_,SqL.of Ga.hrw⟩,λld hld=>?_⟩
   refine qp (K:=K) (a:=rw) (xs:=xs) (acc:=ld) (λj σ H2=>∃x:Option V,σ=[x]/\H2 ld=some (.lst (((rs.take j).map (·.1)).map V.int))/\Ext ld Ha H2) ?_ ?_ ?_ ?_
   ·exact ⟨none,rfl,j5,Ext.put⟩
   ·rintro j σ H2 hj ⟨x,rfl,h3,e3⟩
    exact SqL.of (e3 _ _ Ga.hrw (j1 Ga.hrw hld))
   ·rintro j v σ H2 hv ⟨x,rfl,h3,e3⟩
    obtain ⟨r,hr,q,g,rfl,hq,hg⟩:=(Ga.rows.keep (jk.new e3 hld)).get hv
    have hj:j<rs.length:=(List.getElem?_eq_some_iff.mp hr).1
    left
    refine ⟨_,h3,by rw [ah,ah,aM];exact jj (),_,rfl,?_,e3.trans Ext.put⟩
    rw [j5,qy (λr:Rch=>r.1) rs j r hr,aA]
    rfl
   ·rintro σ H2 ⟨x,rfl,h3,e3⟩
    rw [hxl,aZ] at h3
    have Gb:=Ga.extN hld e3
    left
    refine ⟨(),(),λhd hhd=>?_⟩
    have en:(1+(i:Int)).toNat=rs.length:=()
    refine xn (lo:=0) (n:=(1+(i:Int)).toNat) (acc:=hd) (λj σ H3=>∃(x:Option V) (vs:List V),σ=[x,some (.ref ld)]/\H3 hd=some (.lst vs)/\vs.length=((aF j).filter (jL rs)).length/\Ext hd H2 H3) ?_ ?_ ?_
    ·exact ⟨none,[],rfl,j5,rfl,Ext.put⟩
    ·rintro j σ H3 hj ⟨x,vs,rfl,h4,l4,e4⟩
     have er:((aF (j+1)).filter (jL rs)).length=((aF j).filter (jL rs)).length+(if jL rs j=true then 1 else 0):=by
      rw [cj,ck,aq]
      congr 1
      by_cases z:jL rs j=true
      ·rw [if_pos z];simp [z]
      ·rw [if_neg z];simp [z]
     have hfl:((aF j).filter (jL rs)).length<=j:=aG (bX _ _) (by rw [bg];exact ao _)
     left
     refine ⟨ld,_,rfl,.inl (SqL.of (e4 _ _ h3 (j1 h3 hhd))),rfl,zK _,?_⟩
     left
     rw [dU,yI]
     refine zn (λhin=>?_) (λhin=>?_)
     ·have hb:jL rs j=true:=by unfold jL;rw [decide_eq_false (show ¬(j:Int)∈tos rs from hin)];rfl
      left
      refine ⟨vs,h4,jj (),_,_,rfl,j5,?_,e4.trans Ext.put⟩
      rw [aq,b9,er,if_pos hb,l4]
     ·have hb:¬jL rs j=true:=by unfold jL;rw [decide_eq_true (show (j:Int)∈tos rs from hin)];exact ar
      exact ⟨_,vs,rfl,h4,by rw [er,if_neg hb,l4,Nat.add_zero],e4⟩
    ·rintro σ H3 ⟨x,vs,rfl,h4,l4,e4⟩
     have Gc:=Gb.extN hhd e4
     have hld4:=e4 _ _ h3 (j1 h3 hhd)
     rw [en] at l4
     have l4':vs.length=(jq rs).length:=l4
     refine ⟨_,_,rfl,.inl (SqL.of h4),?_⟩
     refine ⟨λσ H5=>∃t':Int,σ=[some (.ref b),some (.ref tp),some (.ref sz),some (.ref rw),some (.ref dp),some (.int (1+(i:Int))),some (.int t'),some (.ref ld),some (.int vs.length),v9]/\H5=H3/\0<=t'/\t'<rs.length/\(t'∈tos rs->(jq rs).length<6),?_,?_⟩
     ·have hh:=gr.heads
      left
      refine qO (λh6=>?_) (λh6=>?_)
      ·left
       refine ⟨ld,_,rfl,.inl (SqL.of hld4),rfl,zK _,?_⟩
       left
       rw [yI]
       refine qO (λhin=>?_) (λhin=>?_)
       ·left
        refine ⟨(),(),λz=>?_⟩
        have:=QG Ld z
        omega
       ·exact ⟨t,rfl,rfl,ha0,(),λz=>absurd z hin⟩
      ·have:(jq rs).length<6:=by
        have:(vs.length:Int)≠6:=λz=>h6 (by rw [z])
        omega
       exact ⟨t,rfl,rfl,ha0,(),λ_=>this⟩
     ·rintro σ H5 ⟨t',rfl,rfl,t0,t1,th⟩
      have hde:=ZG t0 t1
      left
      refine ⟨_,_,_,_,rfl,rfl,SqL.of Gc.hdp,hde,?_⟩
      left
      refine qO (λh30=>?_) (λh30=>?_)
      ·have hdp0:=gr.deep t'.toNat ()
       generalize hdt:jy rs (qu rs t'.toNat)=dt at hde h30 hdp0
       left
       refine ⟨_,_,_,_,rfl,rfl,SqL.of Gc.hdp,hde,?_⟩
       left
       refine ⟨_,_,rfl,?_⟩
       refine ⟨L,b,_,rfl,Gc.box,⟨by split <;> omega,by split <;> omega⟩,λv5' H6 p6 q6 B6 X6=>?_⟩
       have Gd:=Gc.take D B6 X6
       have hz12:1+v5'<=12/\dt+(1+v5')<=30:=by
        have q6':=q6
        split at q6' <;> omega
       left
       refine ⟨.inl ⟨rfl,_,SqL.of Gd.htp⟩,?_⟩
       left
       have hti:t'.toNat<ts.length:=()
       refine ⟨_,_,_,_,rfl,rfl,SqL.of Gd.htp,x3 t0 (by rw [ax,ae hti];rfl),?_⟩
       left
       refine ⟨L,b,_,rfl,Gd.box,⟨⋯,⋯⟩,λv6' H7 p7 q7 B7 X7=>?_⟩
       have Ge:=Gd.take D B7 X7
       left
       refine ⟨_,_,rfl,?_⟩
       generalize hnew:(if ts[t'.toNat]'hti+v6'<99 then ts[t'.toNat]'hti+v6' else 99)=new
       have hnew99:new<=99:=by rw [<- hnew];split <;> omega
       left
       refine ⟨tp,_,_,rfl,rfl,Ge.htp,by rw [ah];exact jj (),?_⟩
       have Gf:RG L b tp rw dp H (upd H7 tp (.lst (ts.map V.int++[V.int new]))) (ts++[new]) xs rs (xG rs):=by
        have:=Ge.putT D (ts++[new])
        rw [aA] at this
        exact this
       left
       refine ⟨.inl ⟨rfl,_,SqL.of Gf.hrw⟩,?_⟩
       left
       refine ⟨_,_,_,_,rfl,rfl,SqL.of j5,Qf _ _,?_⟩
       left
       refine ⟨L,b,new,1+v5',rfl,Gf.box,hnew99,(),(),λgl' H8 hs' B8' X8 hgl' hgl8 hl' hb'=>?_⟩
       have Gg:=Gf.take D B8' X8
       refine ⟨gl',_,rfl,SqL.of hgl8,λgt' H9' hgt' hgt9 s9'=>?_⟩
       refine ⟨by show 2<=sizeLine;decide,λrt' H10' hrt' hrt10 s10'=>?_⟩
       have Gh:=(Gg.same s9').same s10'
       left
       refine ⟨rw,_,_,rfl,rfl,Gh.hrw,jj (),?_⟩
       have okn:okR rs.length (t',hs')=true:=Uf () t0 t1 hl' () () hb'
       have Gi:=Gh.putR D (v:=.ref rt') (r:=(t',hs')) ⟨rt',gt',rfl,hrt10,s10' _ _ hgt9⟩
       left
       refine ⟨.inl ⟨rfl,_,SqL.of Gi.hdp⟩,?_⟩
       left
       refine ⟨_,_,_,_,rfl,rfl,SqL.of Gi.hdp,hde,?_⟩
       left
       have hdl:(xG rs).length=rs.length:=by unfold xG;simp
       refine ⟨dp,_,_,rfl,rfl,Gi.hdp,by rw [ah];exact jj (),?_⟩
       have Gj:RG L b tp rw dp H (upd (upd H10' rw (.lst (xs++[.ref rt']))) dp (.lst ((xG rs).map V.int++[V.int (dt+(1+v5'))]))) (ts++[new]) (xs++[.ref rt']) (rs++[(t',hs')]) (xG (rs++[(t',hs')])):=by
        have:=Gi.putD D (xG rs++[dt+(1+v5')])
        rw [aA] at this
        rw [JK gr t0 t1 okn,hdt,hl']
        exact this
       refine ⟨_,_,_,_,_,_,_,_,rfl,Gj,gr.snoc t0 t1 okn th (by rw [hdt];omega),by rw [aq,hrl];rfl,by rw [aq,htl];rfl,λt ht=>?_⟩
       rcases List.mem_append.mp ht with ht | ht
       ·exact htb t ht
       ·have:t=new:=by simpa using ht
        omega
      ·left
       exact done _ _ _ _ _ Gc gr () ()
  ·rintro σ H' ⟨v5,v6,v7,v8,v9,ts,xs,rs,rfl,G,gr,hrl,htl,htb⟩
   left
   exact done _ _ _ _ _ G gr () ()
noncomputable def Zi (t:TE):Prop:=∀σ H Q Q',(∀v H,Q v H->Q' v H)->t σ H Q->t σ H Q'
noncomputable def Vm (r:R2):Prop:=∀x y H Q Q',(∀v H,Q v H->Q' v H)->r x y H Q->r x y H Q'
theorem Z8 (i:Nat):Zi (XC i):=λ_ _ _ _ h ⟨v,e,q⟩=>⟨v,e,h _ _ q⟩
theorem XZ (v:V):Zi (tC v):=λ_ _ _ _ h q=>h _ _ q
theorem wG {r:R2}{ta tb:TE}(hr:Vm r) (ha:Zi ta) (hb:Zi tb):Zi (tOp r ta tb):=λσ H Q Q' h q=>ha σ H _ _ (λx H1 q1=>hb σ H1 _ _ (λy H2 q2=>hr x y H2 _ _ h q2) q1) q
theorem XH (K:ag):Vm (UV K):=λ_ _ _ _ _ h ⟨a,xs,i,v,e1,e2,e3,e4,q⟩=>⟨a,xs,i,v,e1,e2,e3,e4,h _ _ q⟩
theorem Vu (K:ag):Vm (Wq K):=λ_ _ _ _ _ h ⟨a,xs,i,v,e1,e2,e3,e4,q⟩=>⟨a,xs,i,v,e1,e2,e3,e4,h _ _ q⟩
theorem WB (g:Int->Int->V):Vm (rI0 g):=λ_ _ _ _ _ h ⟨i,j,e1,e2,q⟩=>⟨i,j,e1,e2,h _ _ q⟩
theorem W9:Vm rNe:=λ_ _ _ _ _ h ⟨e,q⟩=>⟨e,h _ _ q⟩
theorem Vn {t:TE}(ht:Zi t):∀σ H Q Q',(∀b H1,Q b H1->Q' b H1)->JG t σ H Q->JG t σ H Q':=λσ H Q Q' h q=>ht σ H _ _ (λ_ _ ⟨k,e,q⟩=>⟨k,e,h _ _ q⟩) q
theorem Qx {α:Type}{x:α}{l:List α}:atI (x::l) 0=some x:=zu (j:=0) rfl
noncomputable def vL (fd:Addr) (H:Hp) (vs:List V) (rows:List (List Int)):Prop:=cO (λv (r:List Int)=>∃a,v=V.ref a/\a≠fd/\H a=some (.lst (r.map V.int))) vs rows
theorem vL.ext {fd:Addr}{H H':Hp}{vs:List V}{rows:List (List Int)}(h:vL fd H vs rows) (e:Ext fd H H'):vL fd H' vs rows:=Paired.mapP h λ_ _ ⟨a,e1,n,q⟩=>⟨a,e1,n,e _ _ q n⟩
theorem vL.rowsI {fd:Addr}{H:Hp}{vs:List V}{rows:List (List Int)}(h:vL fd H vs rows):yj H vs rows:=Paired.mapP h λ_ _ ⟨a,e1,n,q⟩=>⟨a,e1,q⟩
theorem wC {H:Hp}{vs:List V}{ws:List (List Int)}(h:yj H vs ws):∀ix:List Nat,(∀i∈ix,i<vs.length)->yj H (ix.map λi=>vs.getD i V.non) (ix.map λi=>ws.getD i [])
 | [],_=>.nil
 | i::ix,hb=>by
  refine .cons ?_ (wC h ix λj hj=>hb j (aD _ hj))
  have hi:=hb i aH
  obtain ⟨y,e2,a,e3,e4⟩:=Paired.get h (ae hi)
  refine ⟨a,?_,?_⟩
  ·show vs.getD i V.non=V.ref a
   rw [ak,ae hi];exact e3
  ·show H a=some (.lst ((ws.getD i []).map V.int))
   rw [ak,e2];exact e4
noncomputable def JT (K:ag):Sp:=λvs H Q _=>∃(p:Addr) (xs:List V) (rs:List Rch),vs=[.ref p]/\H p=some (.lst xs)/\jU H xs rs/\xr rs/\rs.length<=60/\∀l H' out ws,H l=none->H' l=some (.lst out)->yj H' out ws->jX rs ws->jn H H'->Q (.ref l) H'
theorem x0:FnScope ["_law_reaches_here","_law_led","_law_found","_law_head","_law_road"] ["_law_reaches_here"] (j8 xN):=by walk_at "s"
theorem YD {f:Addr}{fd:FuncData}(nb:Nb2 mg) (F:Fun K "_law_roads" "_law_roads" xN f fd):FnOk P w K mg base CX0 1 f fd ["_law_reaches_here"] (JT K):=by
 refine F.ok x0 (λvs H Q E h=>?_) (λcdv A outer s H vs Q E hr h=>?_)
 ·obtain ⟨p,xs,rs,rfl,_⟩:=h
  rfl
 ·obtain ⟨p,xs,rs,rfl,hp,hrw,L,h60,k⟩:=h
  have hlen:=hrw.length
  refine ⟨_,(j4 (J7 (j:=1) (osc:=(j8 xN)) (ON:=["_law_reaches_here","_law_led","_law_found","_law_head","_law_road"]) (N:=["_law_to","_law_ground_here"]) (own:=2) (caps:=[]) ⟨rfl,∅,∅,∅,rfl,∅⟩ x0.nd rfl (aP rfl) rfl rfl rfl (jT K (pv 0)) (λ_ _ _ _ _=>(qx (n:=2) K rfl (jo (jb (i:=0) (show bc (["_law_to","_law_ground_here"]:List Str) by decide +kernel) rfl (aP rfl)) (jo (jb (i:=1) (show bc (["_law_to","_law_ground_here"]:List Str) by decide +kernel) rfl (aP rfl)) qw)))) (λ_ _ _ _ _=>jH) (λ_ _ _ _ _=>(pv 0)))
   (j4 (jx 2 x0.nd (jZ j2))
   (j4 (qv aW rfl (qd rfl nb.b_range (j0 (je (jh K) rfl nb.b_len aV (j0 (pv 0) j2)) j2)) (jb (i:=3) x0.nd rfl (aP rfl)) (j9 (qc (jD (xL K) (pv 3) (pv 1) (by with_unfolding_all rfl)) (j4 (jx 4 x0.nd (jZ (j0 (pv 3) j2)))
   (j4 (Q7 aW (jD Vc (js (qC K) (js (jd K) (pv 0) (js (jd K) (pv 4) j7 (λ_ _=>rfl)) (λ_ _=>rfl)) j7 (λ_ _=>rfl)) (jr qI j7 j7) (jK _)) (j9 (jx 4 x0.nd (jr Vr (jZ (j0 (js (qC K) (js (jd K) (pv 0) (js (jd K) (pv 4) j7 (λ_ _=>rfl)) (λ_ _=>rfl)) j7 (λ_ _=>rfl)) j2)) (pv 4)))))
   (j9 (jY (y3 K bz bD bE qA (pv 2) (j0 (pv 4) j2)))))) jw)))
   (j9 (jm (jS (osc:=(j8 xN)) (ON:=["_law_reaches_here","_law_led","_law_found","_law_head","_law_road"]) (N:=["_law_road"]) (own:=1) (caps:=[]) ⟨rfl,∅,∅,∅,rfl,∅⟩ rfl rfl rfl (jT K (je (kL K hr.units) rfl nb.b_sorted pJ (j0 (pv 2) j2))) (λ_ _ _ _ _=>(jb (i:=0) (show bc (["_law_road"]:List Str) by decide +kernel) rfl (aP rfl))) (λ_ _ _ _ _=>jH) (λ_ _ _ _ _=>(Vx K (pv 0))))))))),?_⟩
  left
  refine ⟨⟨_,SqL.of hp⟩,λen hen=>?_⟩
  refine qp (K:=K) (a:=p) (xs:=xs) (acc:=en) (λj σ H2=>∃x y:Option V,σ=[x,y]/\H2 en=some (.lst (((rs.take j).map (·.1)).map V.int))/\Ext en H H2) ?_ ?_ ?_ ?_
  ·exact ⟨none,none,rfl,j5,Ext.put⟩
  ·rintro j σ H2 hj ⟨x,y,rfl,h3,e3⟩
   exact SqL.of (e3 _ _ hp (j1 hp hen))
  ·rintro j v σ H2 hv ⟨x,y,rfl,h3,e3⟩
   obtain ⟨r,hr,q,g,rfl,hq,hg⟩:=(hrw.keep (jk.new e3 hen)).get hv
   have hj:j<rs.length:=(List.getElem?_eq_some_iff.mp hr).1
   left
   refine ⟨q,_,rfl,SqT.of hq,rfl,?_⟩
   refine ⟨_,_,rfl,_,_,rfl,rfl,?_⟩
   left
   refine ⟨_,h3,by rw [ah,ah,aM];exact jj (),_,_,rfl,?_,e3.trans Ext.put⟩
   rw [j5,qy (λr:Rch=>r.1) rs j r hr,aA]
   rfl
  ·rintro σ H2 ⟨x,y,rfl,h3,e3⟩
   rw [hlen,aZ] at h3
   have sm2:jn H H2:=λc o hc=>e3 c o hc (j1 hc hen)
   left
   refine ⟨aE _,λfo H3 hfo hfo3 s3=>?_⟩
   have hp3:=s3 _ _ (sm2 _ _ hp)
   have hrw3:jU H3 xs rs:=hrw.keep (jk.same (sm2.trans s3))
   have hen3:=s3 _ _ h3
   have hfoH:H fo=none:=sm2.free hfo
   left
   refine ⟨_,_,rfl,.inl (SqL.of hp3),?_⟩
   refine ⟨_,rfl,(),(),?_⟩
   rw [hlen]
   refine qU (lo:=0) (n:=((rs.length:Nat):Int).toNat) (λj σ H4=>∃(v3 v4:Option V) (vs:List V),σ=[some (.ref p),some (.ref en),some (.ref fo),v3,v4]/\H4 fo=some (.lst vs)/\vL fo H4 vs (((aF j).filter (jL rs)).map λh=>(qu rs h).reverse)/\Ext fo H3 H4/\vs.length<=j) ?_ ?_ ?_
   ·exact ⟨_,_,[],rfl,hfo3,.nil,Ext.refl,ao _⟩
   ·rintro j σ H4 hj ⟨v3,v4,vs,rfl,h4,w4,e4,l4⟩
    have hj':j<rs.length:=()
    have kt4:jk H3 H4:=jk.lst e4 hfo3
    have hen4:=e4 _ _ hen3 (j1 h3 hfo)
    have hp4:=e4 _ _ hp3 (j1 (sm2 _ _ hp) hfo)
    have hrw4:jU H4 xs rs:=hrw3.keep kt4
    have er:(aF (j+1)).filter (jL rs)=(aF j).filter (jL rs)++(if jL rs j=true then [j] else []):=by
     rw [cj,ck]
     congr 1
     by_cases z:jL rs j=true
     ·rw [if_pos z];simp [z]
     ·rw [if_neg z];simp [z]
    left
    refine ⟨en,_,rfl,.inl (SqL.of hen4),rfl,zK _,?_⟩
    left
    rw [dU,yI]
    refine zn (λhin=>?_) (λhin=>?_)
    ·have hb:jL rs j=true:=by unfold jL;rw [decide_eq_false (show ¬(j:Int)∈tos rs from hin)];rfl
     left
     refine ⟨by show 1<=sizeLine;decide,λr0 H5 hr0 hr05 s5=>?_⟩
     left
     refine JD (λσ H6=>∃(a:Addr) (r:Nat) (l:List Int),σ=[some (.ref p),some (.ref en),some (.ref fo),some (.int (j:Int)),some (.ref a)]/\jn H4 H6/\H4 a=none/\H6 a=some (.lst (((r:Int)::l).map V.int))/\r<rs.length/\l.length+r<=100/\l.reverse++qu rs r=qu rs j) (λσ H6=>match σ with | [_,_,_,_,some (.ref a)]=>(match H6 a with | some (.lst (.int r::_))=>r.toNat | _=>0) | _=>0) ?_ ?_ ?_
     ·exact ⟨r0,j,[],rfl,s5,hr0,hr05,hj',by simp;omega,rfl⟩
     ·rintro σ H6 ⟨a,r,l,rfl,s6,ha4,ha6,hrl,hll,heq⟩
      have hp6:=s6 _ _ hp4
      obtain ⟨v,hv,q,g,rfl,hq,hg⟩:=(hrw4.keep (jk.same s6)).at (ae hrl)
      have ht:=L.lt hrl
      have hl3:=wW (L _ hrl)
      have et:=gX (ae hrl)
      rw [et] at ht hl3
      generalize (rs[r]'hrl).1=tt at ht hl3 et hq
      left
      refine ⟨_,_,_,_,rfl,rfl,SqL.of ha6,Qx,?_⟩
      refine ⟨_,_,_,_,rfl,rfl,SqL.of hp6,zu hv,?_⟩
      refine ⟨_,_,_,_,rfl,rfl,SqT.of hq,rfl,?_⟩
      left
      refine zn (λhne=>?_) (λhne=>?_)
      ·have htt:0<=tt:=by
        have:tt ≠ -1:=λz=>hne (by rw [z];rfl)
        omega
       left
       refine ⟨_,_,_,_,rfl,rfl,SqL.of ha6,Qx,?_⟩
       refine ⟨_,_,_,_,rfl,rfl,SqL.of hp6,zu hv,?_⟩
       refine ⟨_,_,_,_,rfl,rfl,SqT.of hq,rfl,?_⟩
       refine ⟨by show 1<=sizeLine;decide,λc1 H7 hc1 hc17 s7=>?_⟩
       left
       refine ⟨c1,a,_,_,rfl,rfl,hc17,s7 _ _ ha6,?_,λc2 H8 hc2 hc28 s8=>?_⟩
       ·show 1+(((r:Int)::l).map V.int).length<=sizeLine
        rw [ah,bj]
        exact eO (jj ())
       ·have ett:tt=((tt.toNat:Nat):Int):=()
        refine ⟨⟨c2,tt.toNat,(r:Int)::l,rfl,(s6.trans s7).trans s8,(s6.trans s7).free hc2,?_,(),?_,?_⟩,?_⟩
        ·rw [hc28,ett]
         simp only [bw]
         rfl
        ·rw [bj];omega
        ·rw [lg,eJ,<- heq,zt L hrl,et,if_neg ()]
         rfl
        ·show (match H8 c2 with | some (.lst (.int r::_))=>r.toNat | _=>0)<(match H6 a with | some (.lst (.int r::_))=>r.toNat | _=>0)
         rw [hc28,ha6]
         show tt.toNat<((r:Int)).toNat
         omega
      ·have htm:tt = -1:=V.int.inj hne
       have hfo6:=s6 _ _ h4
       left
       refine ⟨.inl ⟨rfl,_,SqL.of hfo6⟩,?_⟩
       left
       refine ⟨fo,_,_,rfl,rfl,hfo6,jj (),?_⟩
       have naf:a≠fo:=λz=>by rw [z,h4] at ha4;cases ha4
       refine ⟨_,_,vs++[.ref a],rfl,j5,?_,λc o hc n=>by rw [j6 n];exact s6 _ _ (e4 c o hc n),by rw [aq,b9];omega⟩
       rw [er,if_pos hb,aA]
       refine vL.ext (cP (w4.ext (Ext.of_same s6)) ⟨a,rfl,naf,?_⟩) Ext.put
       show H6 a=some (.lst (((qu rs j).reverse).map V.int))
       rw [ha6,<- heq,zt L hrl,et,if_pos (),List.reverse_append,eN]
       rfl
     ·exact Vn (wG W9 (wG (Vu K) (wG (XH K) (Z8 0) (wG (XH K) (Z8 4) (XZ _))) (XZ _)) (wG (WB _) (XZ _) (XZ _)))
    ·have hb:¬jL rs j=true:=by unfold jL;rw [decide_eq_true (show (j:Int)∈tos rs from hin)];exact ar
     refine ⟨_,_,vs,rfl,h4,?_,e4,()⟩
     rw [er,if_neg hb,bp]
     exact w4
   ·rintro σ H4 ⟨v3,v4,vs,rfl,h4,w4,e4,l4⟩
    rw [bw] at w4 l4
    have sm4:jn H H4:=λc o hc=>e4 _ _ (s3 _ _ (sm2 _ _ hc)) (j1 hc hfoH)
    left
    refine ⟨fo,vs,_,rfl,SqL.of h4,(),w4.rowsI,λso H5 out hso hso5 s5 hs=>?_⟩
    obtain ⟨ix,hpx,eo,hpw⟩:=hs
    have hvl:vs.length=(jq rs).length:=by rw [aX w4,ah];rfl
    have hb:∀i∈ix,i<vs.length:=λi hi=>by have:=hpx.mem_iff.mp hi;simpa using this
    have hri:=wC (w4.rowsI) ix hb
    have hw5:yj H5 out (ix.map λi=>(((jq rs).map λh=>(qu rs h).reverse).getD i [])):=by
     rw [eo]
     exact Paired.mapP hri λ_ _ ⟨a,e1,q⟩=>⟨a,e1,s5 _ _ q⟩
    have hol:out.length<=60:=by rw [eo,ah,hpx.length_eq,bg];omega
    generalize hrv:(ix.map λi=>(((jq rs).map λh=>(qu rs h).reverse).getD i []))=rv at hw5
    have hrvl:=aX hw5
    have isr:jX rs (rv.map cE):=by
     refine ⟨?_,?_⟩
     ·have h1:=hpx.map λi=>(((jq rs).map λh=>(qu rs h).reverse).getD i [])
      rw [hvl,show (jq rs).length=((jq rs).map λh=>(qu rs h).reverse).length by rw [ah],Qg,hrv] at h1
      have h2:=h1.map cE
      rw [bP] at h2
      refine h2.trans (List.Perm.of_eq (dC λx _=>?_))
      exact eN _
     ·rw [bP,show (cE ∘ cE:List Int->List Int)=id from funext λx=>eN x,mI,<- hrv]
      exact hpw
    refine ⟨so,rfl,⟨_,SqL.of hso5⟩,λacc hacc=>?_⟩
    refine qp (K:=K) (a:=so) (xs:=out) (acc:=acc) (λj σ H6=>∃(x:Option V) (us:List V),σ=[x]/\H6 acc=some (.lst us)/\vL acc H6 us ((rv.take j).map cE)/\Ext acc H5 H6/\us.length=j) ?_ ?_ ?_ ?_
    ·exact ⟨none,[],rfl,j5,.nil,Ext.put,rfl⟩
    ·rintro j σ H6 hj ⟨x,us,rfl,h6,w6,e6,l6⟩
     exact SqL.of (e6 _ _ hso5 (j1 hso5 hacc))
    ·rintro j v σ H6 hv ⟨x,us,rfl,h6,w6,e6,l6⟩
     obtain ⟨y,e2,a,rfl,ha⟩:=Paired.get hw5 hv
     have hj:j<rv.length:=(List.getElem?_eq_some_iff.mp e2).1
     left
     refine ⟨a,_,rfl,SqL.of (e6 _ _ ha (j1 ha hacc)),λq H7 hq hq7 s7=>?_⟩
     have h7:=s7 _ _ h6
     have nq:q≠acc:=λz=>by rw [z,h6] at hq;cases hq
     refine ⟨us,h7,jj (),_,us++[.ref q],rfl,j5,?_,λc o hc n=>by rw [j6 n];exact s7 _ _ (e6 c o hc n),by rw [aq,l6];rfl⟩
     rw [qy cE rv j y e2]
     refine vL.ext (cP (w6.ext (Ext.of_same s7)) ⟨q,rfl,nq,?_⟩) Ext.put
     rw [hq7,pw]
    ·rintro σ H6 ⟨x,us,rfl,h6,w6,e6,l6⟩
     rw [hrvl,aZ] at w6
     exact k acc H6 us _ (sm4.free (s5.free hacc)) h6 w6.rowsI isr λc o hc=>e6 _ _ (s5 _ _ (sm4 _ _ hc)) (j1 (s5 _ _ (sm4 _ _ hc)) hacc)
noncomputable def jc (rs:List Rch) (way:List Int):List Int:=(way.map λr=>zA rs r.toNat).flatten
theorem kq (rs:List Rch):∀way:List Int,((jc rs way).length:Int)=jy rs way
 | []=>rfl
 | r::way=>by
  rw [xg,<- kq rs way]
  unfold jc
  rw [aJ,lp,aq]
  push_cast
  rfl
theorem UK {n:Nat}(h:n<=100000):n<sizeLine:=bO h ⋯
theorem uL (rs:List Rch) (way:List Int) (j:Nat) (r:Int) (h:way[j]? = some r):jc rs (way.take (j+1))=jc rs (way.take j)++zA rs r.toNat:=by
 unfold jc
 rw [c3,h,aA,List.flatten_append]
 congr 1
 show [zA rs r.toNat].flatten=_
 simp
theorem uh {rs:List Rch}(h100:∀r∈rs,r.2.length<=100):∀way:List Int,(jc rs way).length<=100*way.length
 | []=>by unfold jc;simp
 | r::way=>by
  have ih:=uh h100 way
  have h1:(zA rs r.toNat).length<=100:=by
   unfold zA
   rw [ak]
   cases e:rs[r.toNat]? with
   | none=>simp
   | some q=>exact h100 q (aw e)
  unfold jc at ih ⊢
  rw [aJ,lp,aq,bj]
  omega
noncomputable def Ql (K:ag):Sp:=λvs H Q _=>∃(p a:Addr) (xs:List V) (rs:List Rch) (way:List Int),vs=[.ref p,.ref a]/\H p=some (.lst xs)/\jU H xs rs/\(∀r∈rs,r.2.length<=100)/\H a=some (.lst (way.map V.int))/\(∀r∈way,0<=r/\r<rs.length)/\way.length<=100/\∀l H',H l=none->H' l=some (.lst ((jc rs way).map V.int))->jn H H'->Q (.ref l) H'
theorem xI:FnScope ["_law_reaches_here","_law_road","_law_found","_law_reach","_law_height"] ["_law_reaches_here","_law_road"] (j8 y6):=by walk_at "s"
theorem ZE {f:Addr}{fd:FuncData}(F:Fun K "_law_ground" "_law_ground" y6 f fd):FnOk P w K mg base CX0 1 f fd ["_law_reaches_here","_law_road"] (Ql K):=by
 refine F.ok xI (λvs H Q E h=>?_) (λcdv A outer s H vs Q E hr h=>?_)
 ·obtain ⟨p,a,xs,rs,way,rfl,_⟩:=h
  rfl
 ·obtain ⟨p,a,xs,rs,way,rfl,hp,hrw,h100,ha,hin,hwl,k⟩:=h
  have hlen:=hrw.length
  refine ⟨_,(j4 (jx 2 xI.nd (jZ j2))
   (j4 (qv aW rfl (jT K (pv 1)) (jb (i:=3) xI.nd rfl (aP rfl)) (j9 (qv aW rfl (vD K (js (qC K) (js (jd K) (pv 0) (pv 3) (λ_ _=>rfl)) j7 (λ_ _=>rfl))) (jb (i:=4) xI.nd rfl (aP rfl)) (j9 (jY (y3 K bz bD bE qA (pv 2) (j0 (pv 4) j2)))))))
   (j9 (jm (pv 2))))),?_⟩
  left
  refine ⟨aE _,λfo H1 hfo hfo1 s1=>?_⟩
  have ha1:=s1 _ _ ha
  left
  refine ⟨⟨_,SqL.of ha1⟩,zL (K:=K) (a:=a) (xs:=way.map V.int) (λj σ H2=>∃x y:Option V,σ=[some (.ref p),some (.ref a),some (.ref fo),x,y]/\H2 fo=some (.lst ((jc rs (way.take j)).map V.int))/\Ext fo H1 H2) ⟨_,_,rfl,hfo1,Ext.refl⟩ ?_ ?_ ?_⟩
  ·rintro j σ H2 hj ⟨x,y,rfl,h2,e2⟩
   exact SqL.of (e2 _ _ ha1 (j1 ha hfo))
  ·rintro j v σ H2 hv ⟨x,y,rfl,h2,e2⟩
   obtain ⟨r,rfl⟩:=yq hv
   have hz:way[j]? = some r:=by
    rw [ax] at hv
    cases e:way[j]? with
    | none=>rw [e] at hv;cases hv
    | some y=>rw [e] at hv;cases hv;rfl
   have hj:j<way.length:=(List.getElem?_eq_some_iff.mp hz).1
   have hr:=hin r (aw hz)
   have hi:r.toNat<rs.length:=()
   obtain ⟨v,hv',q,g,rfl,hq,hg⟩:=(hrw.keep ((jk.same s1).trans (jk.lst e2 hfo1))).at (ae hi)
   have hsl:=h100 _ (bU hi)
   have hgl:=uh h100 (way.take j)
   have htl:(way.take j).length<=100:=by rw [aM];omega
   left
   refine ⟨_,_,_,_,rfl,rfl,SqL.of (e2 _ _ (s1 _ _ hp) (j1 hp hfo)),x3 hr.1 hv',?_⟩
   refine ⟨_,_,_,_,rfl,rfl,SqT.of hq,rfl,?_⟩
   refine ⟨g,rfl,⟨_,SqT.of hg⟩,Uj (K:=K) (a:=g) (xs:=(rs[r.toNat]'hi).2.map V.int) (λi σ H3=>∃y:Option V,σ=[some (.ref p),some (.ref a),some (.ref fo),some (.int r),y]/\H3 fo=some (.lst ((jc rs (way.take j)++(rs[r.toNat]'hi).2.take i).map V.int))/\Ext fo H2 H3) ⟨_,rfl,?_,Ext.refl⟩ ?_ ?_ ?_⟩
   ·rw [rW,bp];exact h2
   ·rintro i σ H3 hi3 ⟨y,rfl,h3,e3⟩
    exact SqT.of (jk.lst e3 h2 _ _ hg)
   ·rintro i v σ H3 hv3 ⟨y,rfl,h3,e3⟩
    obtain ⟨z,rfl⟩:=yq hv3
    have hz3:(rs[r.toNat]'hi).2[i]? = some z:=by
     rw [ax] at hv3
     cases e:(rs[r.toNat]'hi).2[i]? with
     | none=>rw [e] at hv3;cases hv3
     | some y=>rw [e] at hv3;cases hv3;rfl
    left
    refine ⟨.inl ⟨rfl,_,SqL.of h3⟩,?_⟩
    left
    refine ⟨fo,_,_,rfl,rfl,h3,?_,?_⟩
    ·rw [ah,aq,aM]
     exact UK ()
    ·refine ⟨_,rfl,?_,e3.trans Ext.put⟩
     rw [j5,c3,hz3,<- eJ,aA,aA,aA]
     rfl
   ·rintro σ H3 ⟨y,rfl,h3,e3⟩
    refine ⟨_,_,rfl,?_,e2.trans e3⟩
    rw [h3,ah,aZ,uL rs way j r hz,Jx (ae hi)]
  ·rintro σ H2 ⟨x,y,rfl,h2,e2⟩
   rw [ah,aZ] at h2
   left
   exact k fo H2 hfo h2 λc o hc=>e2 _ _ (s1 _ _ hc) (j1 hc hfo)
noncomputable def XR (Pt C:Addr):Sp:=λvs H Q E=>∃(p:Addr) (xs:List V) (rs:List Rch) (l:Int),vs=[.ref p,.int l]/\H p=some (.lst xs)/\jU H xs rs/\xr rs/\rs.length<=60/\qB H Pt /\
 (∀t H' ws (i:Nat),l=i->i<ws.length->jX rs ws->H' t=some (.tup ((ws.getD i []).map V.int))->Ext Pt H H'->qB H' Pt->Q (.ref t) H')/\∀H',(l<0\/((jq rs).length:Int)<=l)->Ext Pt H H'->qB H' Pt->E (.ref C) none H'
theorem gv:FnScope ["reaches","lane","ways"] ["reaches","lane"] (j8 wk):=by walk_at "s"
theorem Zy {f Pt C:Addr}{fd:FuncData}(nb:Nb2 mg) (e_NoLane:mg "NoLane" = some (.ref C)) (x_NoLane:cN K C [.type "ValueError",.type "Exception",.type "BaseException",.type "object"] "ValueError.__new__" = true) (c_lanes:Cal P w K mg base 5 "lanes" ["reaches"] (vB K Pt)) (F:Fun K "way_of" "way_of" wk f fd):FnOk P w K mg base (CX1 P w) 6 f fd ["reaches","lane"] (XR Pt C):=by
 refine Fun.okX F gv (λvs H Q E h=>?_) (λcdv A outer s H vs Q E hr h=>?_)
 ·obtain ⟨p,xs,rs,l,rfl,_⟩:=h
  rfl
 ·obtain ⟨p,xs,rs,l,rfl,hp,hrw,L,h60,hT,k,kx⟩:=h
  refine ⟨_,(j4 (jx 2 gv.nd (jg c_lanes (hr.mono ⋯) rfl (j0 (pv 0) j2)))
   (j4 (qc (xl (xz qk yU j7 (pv 1) (je (jh K) rfl nb.b_len aV (j0 (pv 2) j2)))) (j9 (xh br x_NoLane e_NoLane rfl xJ rfl (j0 jB j2))) jw)
   (j9 (jm (js (jd K) (pv 2) (pv 1) (λ_ _=>rfl)))))),?_⟩
  left
  refine ⟨p,xs,rs,rfl,hp,hrw,L,h60,hT,λo H1 out ws ho ho1 hw hR X1 T1=>?_⟩
  have hlen:out.length=ws.length:=hw.length
  have hws:(ws.length:Int)=((jq rs).length:Int):=by rw [hR.length]
  left
  refine qO (λh0=>?_) (λh0=>?_)
  ·left
   refine ⟨_,_,rfl,.inl (SqL.of ho1),?_⟩
   left
   refine zn (λh1=>?_) (λh1=>?_)
   ·left
    exact ⟨by show 1<=sizeLine;decide,kx H1 (.inr ()) X1 T1⟩
   ·have hi:l.toNat<out.length:=()
    obtain ⟨wy,hwy,a,hov,ha⟩:=Paired.get hw (ae hi)
    have el:l=(l.toNat:Int):=()
    left
    refine ⟨_,_,_,_,rfl,rfl,SqL.of ho1,(by rw [el];exact zu (ae hi)),?_⟩
    rw [hov]
    refine k a H1 ws l.toNat el () hR ?_ X1 T1
    rw [ha,ak,hwy]
    rfl
  ·left
   refine yH ?_
   left
   exact ⟨by show 1<=sizeLine;decide,kx H1 (.inl ()) X1 T1⟩
noncomputable def kS (Pt C:Addr):Sp:=λvs H Q E=>∃(p:Addr) (xs:List V) (rs:List Rch) (l:Int),vs=[.ref p,.int l]/\H p=some (.lst xs)/\jU H xs rs/\xr rs/\rs.length<=60/\(∀r∈rs,r.2.length<=100)/\qB H Pt /\
 (∀t H' ws (i:Nat),l=i->i<ws.length->jX rs ws->H t=none->H' t=some (.lst ((jc rs (ws.getD i [])).map V.int))->Ext Pt H H'->qB H' Pt->Q (.ref t) H')/\∀H',(l<0\/((jq rs).length:Int)<=l)->Ext Pt H H'->qB H' Pt->E (.ref C) none H'
theorem Xx:FnScope ["reaches","lane"] ["reaches","lane"] (j8 yK):=by walk_at "s"
theorem UF {rs:List Rch}{ws:List (List Int)}(L:xr rs) (h:jX rs ws) {a:Nat}(ha:a<ws.length):(∀r∈ws.getD a [],0<=r/\r<rs.length)/\(ws.getD a []).length<=rs.length:=by
 rw [ak,ae ha]
 obtain ⟨x,hx,e⟩:=h.mem (bU ha)
 show (∀r∈ws[a],_)/\ws[a].length<=_
 rw [e]
 exact ⟨xM L x (xD hx),by have:=vY L x (xD hx);have:=xD hx;omega⟩
theorem uA {l:List Int}{j:Nat}{v:V}(h:(l.map V.int)[j]? = some v):∃x,v = .int x/\l[j]? = some x:=by
 rw [ax] at h
 cases e:l[j]? with
 | none=>rw [e] at h;cases h
 | some y=>rw [e] at h;cases h;exact ⟨y,rfl,rfl⟩
theorem JI {H H':Hp}{Pt a:Addr}(T:qB H Pt) (e:Ext Pt H H') (T':qB H' Pt) (n:H' a=none):H a=none:=by
 cases q:H a with
 | none=>rfl
 | some o =>
  by_cases z:a=Pt
  ·obtain ⟨ps,h⟩:=T'.ne
   rw [z,h] at n
   cases n
  ·have:=e _ _ q z
   rw [n] at this
   cases this
theorem QO {f Pt C:Addr}{fd:FuncData}(nb:Nb2 mg) (c_way_of:CalX P w K mg base 6 "way_of" ["reaches","lane"] (XR Pt C)) (F:Fun K "heights" "heights" yK f fd):FnOk P w K mg base (CX1 P w) 7 f fd ["reaches","lane"] (kS Pt C):=by
 refine Fun.okX F Xx (λvs H Q E h=>?_) (λcdv A outer s H vs Q E hr h=>?_)
 ·obtain ⟨p,xs,rs,l,rfl,_⟩:=h
  rfl
 ·obtain ⟨p,xs,rs,l,rfl,hp,hrw,L,h60,h100,hT,k,kx⟩:=h
  refine ⟨_,(j9 (jm (Yy (osc:=(j8 yK)) (ON:=["reaches","lane"]) (N:=["reach","height","reaches"]) (own:=2) (caps:=[0]) ⟨rfl,∅,∅,∅,rfl,∅⟩ rfl rfl rfl (vD K (xW c_way_of (hr.mono ⋯) qE rfl (j0 (pv 0) (j0 (pv 1) j2)))) (λ_ _ _ _ _=>(jb (i:=0) (show bc (["reach","height","reaches"]:List Str) by decide +kernel) rfl (aP rfl))) (λ_ _ _ _ _=>jH) (λ_ _ _ _ _=>(vD K (js (qC K) (js (jd K) (pv 2) (pv 0) (λ_ _=>rfl)) j7 (λ_ _=>rfl)))) (λ_ _ _ _ _=>(jb (i:=1) (show bc (["reach","height","reaches"]:List Str) by decide +kernel) rfl (aP rfl))) (λ_ _ _ _ _=>jH) (λ_ _ _ _ _=>(pv 1))))),?_⟩
  obtain ⟨ps,hPt⟩:=hT.ne
  left
  refine ⟨p,xs,rs,l,rfl,hp,hrw,L,h60,hT,λt H1 ws i ei hi hR ht1 X1 T1=>?_,λH1 hbad X1 T1=>kx H1 hbad X1 T1⟩
  have hp1:=X1 _ _ hp (ji hp hPt (by walk_at "z"))
  have hrw1:jU H1 xs rs:=hrw.keep (jk.tbl X1 hPt)
  obtain ⟨inw,lenw⟩:=UF L hR hi
  have kk:=λt H'=>k t H' ws i ei hi hR
  generalize ws.getD i []=way at *
  left
  refine ⟨⟨_,SqT.of ht1⟩,λacc hacc=>?_⟩
  refine ZT (K:=K) (a:=t) (xs:=way.map V.int) (acc:=acc) (λj σ H2=>∃x y:Option V,σ=[x,y,some (.ref p)]/\H2 acc=some (.lst ((jc rs (way.take j)).map V.int))/\Ext acc H1 H2) ?_ ?_ ?_ ?_
  ·exact ⟨none,none,rfl,j5,Ext.put⟩
  ·rintro j σ H2 hj ⟨x,y,rfl,h3,e3⟩
   exact SqT.of (e3 _ _ ht1 (j1 ht1 hacc))
  ·rintro j v σ H2 hv ⟨x,y,rfl,h3,e3⟩
   obtain ⟨r,rfl,hr'⟩:=uA hv
   have hin:=inw r (aw hr')
   have hri:r.toNat<rs.length:=()
   obtain ⟨v,hv2,q,g,rfl,hq1,hg1⟩:=hrw1.at (ae hri)
   have hp2:=e3 _ _ hp1 (j1 hp1 hacc)
   have hq:=e3 _ _ hq1 (j1 hq1 hacc)
   have gl:=uh h100 (way.take j)
   have jl:(way.take j).length<=60:=by rw [aM];omega
   have hsn:=uL rs way j r hr'
   have ehs:zA rs r.toNat=(rs[r.toNat]'hri).2:=by
    unfold zA
    rw [ak,ae hri]
    rfl
   have hl100:=h100 _ (bU hri)
   rw [ehs] at hsn
   generalize (rs[r.toNat]'hri).2=hs at hg1 hsn hl100
   left
   refine ⟨_,_,_,_,rfl,rfl,SqL.of hp2,(by rw [show r=((r.toNat:Nat):Int) by omega];exact zu hv2),?_⟩
   refine ⟨_,_,_,_,rfl,rfl,SqT.of hq,rfl,?_⟩
   refine ⟨g,rfl,⟨_,SqT.of (e3 _ _ hg1 (j1 hg1 hacc))⟩,?_⟩
   refine Wt (K:=K) (a:=g) (acc:=acc) (xs:=hs.map V.int) (λn σ H4=>∃y:Option V,σ=[some (.int r),y,some (.ref p)]/\H4 acc=some (.lst ((jc rs (way.take j)++hs.take n).map V.int))/\Ext acc H1 H4) ?_ ?_ ?_ ?_
   ·exact ⟨y,rfl,by rw [rW,bp];exact h3,e3⟩
   ·rintro n σ H4 hn ⟨y,rfl,h4,e4⟩
    exact SqT.of (e4 _ _ hg1 (j1 hg1 hacc))
   ·rintro n v σ H4 hv4 ⟨y,rfl,h4,e4⟩
    obtain ⟨h,rfl,hh⟩:=uA hv4
    have hnl:=(List.getElem?_eq_some_iff.mp hh).1
    left
    refine ⟨_,h4,by rw [ah,aq,aM];exact aN (show _<10000 by omega) ⋯,some (.int h),rfl,?_,e4.trans Ext.put⟩
    rw [j5,c3,hh,dW,<- eJ,aA (l₁:=jc rs (way.take j)++hs.take n)]
    rfl
   ·rintro σ H4 ⟨y,rfl,h4,e4⟩
    rw [ah,aZ,<- hsn] at h4
    exact ⟨_,_,rfl,h4,e4⟩
  ·rintro σ H2 ⟨x,y,rfl,h3,e3⟩
   rw [ah,aZ] at h3
   exact kk acc H2 (JI hT X1 T1 hacc) h3 (λc o hc n=>e3 _ _ (X1 _ _ hc n) (λz=>by rw [z,JI hT X1 T1 hacc] at hc;cases hc)) (T1.extN hacc e3)
noncomputable def uS (va cy sl ye le:Addr):List (Str×V):=jp "leaps" (.ref le) (jp "years" (.ref ye) (jp "slopes" (.ref sl) (jp "cycle" (.ref cy) (jp "valley" (.ref va) []))))
theorem wU (va cy sl ye le:Addr):(uS va cy sl ye le).lookup ("cycle" : Str)=some (.ref cy):=by
 unfold uS
 rw [jv,if_neg ∅,jv,if_neg ∅,jv,if_neg ∅,jv,if_pos rfl]
theorem zj (va cy sl ye le:Addr):(uS va cy sl ye le).lookup ("slopes" : Str)=some (.ref sl):=by
 unfold uS
 rw [jv,if_neg ∅,jv,if_neg ∅,jv,if_pos rfl]
theorem wV (va cy sl ye le:Addr):(uS va cy sl ye le).lookup ("years" : Str)=some (.ref ye):=by
 unfold uS
 rw [jv,if_neg ∅,jv,if_pos rfl]
theorem vt (va cy sl ye le:Addr):(uS va cy sl ye le).lookup ("leaps" : Str)=some (.ref le):=by
 unfold uS
 rw [jv,if_pos rfl]
theorem U8 (va cy sl ye le:Addr) {m:Str}(h1:¬m = "leaps") (h2:¬m = "years") (h3:¬m = "slopes") (h4:¬m = "cycle") (h5:¬m = "valley"):(uS va cy sl ye le).lookup m=none:=by
 unfold uS
 rw [jv,if_neg h1,jv,if_neg h2,jv,if_neg h3,jv,if_neg h4,jv,if_neg h5]
 rfl
theorem qJ {va cy sl ye le:Addr}{m:Str}(h:(¬m="leaps")/\(¬m="years")/\(¬m="slopes")/\(¬m="cycle")/\¬m="valley"):(uS va cy sl ye le).lookup m=none:=U8 _ _ _ _ _ h.1 h.2.1 h.2.2.1 h.2.2.2.1 h.2.2.2.2
structure IceC (K:ag) (C:Addr):Prop where
 cl:Cls K C
 nV:zc K C "valley"
 nC:zc K C "cycle"
 nS:zc K C "slopes"
 nY:zc K C "years"
 nL:zc K C "leaps"
structure IceG where
 dx:Addr
 va:Addr
 cy:Addr
 sl:Addr
 ye:Addr
 le:Addr
 xs:List V
 ys:List V
 zs:List V
 lds:List (Addr×List (Key×V))
 kvs:List (Key×V)
 rs:List Rch
 rows:List T3
 slopes:List (List Int)
structure IceAt (C:Addr) (H:Hp) (p:Addr) (g:IceG):Prop where
 ob:H p=some (.ins C g.dx (uS g.va g.cy g.sl g.ye g.le))
 va:H g.va=some (.lst g.xs)
 rs:jU H g.xs g.rs
 cy:H g.cy=some (.lst g.ys)
 rows:jG H g.ys g.rows
 sl:H g.sl=some (.lst g.zs)
 slopes:yj H g.zs g.slopes
 ye:H g.ye=some (.dK g.kvs)
 le:H g.le=some (.lst (g.lds.map λx=>V.ref x.1))
 lds:∀x∈g.lds,H x.1=some (.dK x.2)
theorem IceAt.same {C:Addr}{H H':Hp}{p:Addr}{g:IceG}(I:IceAt C H p g) (s:jn H H'):IceAt C H' p g :=
 ⟨s _ _ I.ob,s _ _ I.va,I.rs.keep (jk.same s),s _ _ I.cy,I.rows.imp λ_ _ q=>s _ _ q,s _ _ I.sl,Paired.mapP I.slopes λ_ _ ⟨a,e,q⟩=>⟨a,e,s _ _ q⟩,s _ _ I.ye,s _ _ I.le,λx hx=>s _ _ (I.lds x hx)⟩
theorem J9 {C:Addr}{H:Hp}{p:Addr}{g:IceG}(I:IceAt C H p g) {l:Int}(h0:0<=l) (h1:l<(g.slopes.length:Int)):∃a,atI g.zs l=some (.ref a)/\H a=some (.lst ((g.slopes.getD l.toNat []).map V.int)):=by
 have hz:g.zs.length=g.slopes.length:=aX I.slopes
 have hi:l.toNat<g.zs.length:=()
 obtain ⟨w,hw,a,e,ha⟩:=Paired.get I.slopes (ae hi)
 refine ⟨a,?_,?_⟩
 ·rw [show l=((l.toNat:Nat):Int) by omega]
  refine zu ?_
  rw [ae hi,e]
 ·rw [ha,ak,hw]
  rfl
theorem UH {l:List Int}{n:Nat}(h:n<l.length):(l.map V.int)[n]? = some (V.int (l.getD n 0)):=by
 rw [ax,ak,ae h]
 rfl
noncomputable def xP (C CN:Addr):Sp:=λvs H Q E=>∃(p:Addr) (g:IceG) (l:Int),vs=[.ref p,.int l]/\IceAt C H p g/\(0<=l->l<(g.slopes.length:Int)->Q .non H)/\(l<0\/(g.slopes.length:Int)<=l->E (.ref CN) none H)
theorem vx:FnScope ["self","lane"] ["self","lane"] (j8 xC):=by walk_at "s"
theorem vy {f C CN:Addr}{fd:FuncData}(nb:Nb2 mg) (T:IceC K C) (e_NoLane:mg "NoLane" = some (.ref CN)) (x_NoLane:cN K CN [.type "ValueError",.type "Exception",.type "BaseException",.type "object"] "ValueError.__new__" = true) (F:Fun K "check_lane" "Ice.check_lane" xC f fd):FnOk P w K mg base (CX1 P w) 1 f fd ["self","lane"] (xP C CN):=by
 refine Fun.okX F vx (λvs H Q E h=>?_) (λcdv A outer s H vs Q E hr h=>?_)
 ·obtain ⟨p,g,l,rfl,_⟩:=h
  rfl
 ·obtain ⟨p,g,l,rfl,I,k,kx⟩:=h
  have hz:g.zs.length=g.slopes.length:=aX I.slopes
  refine ⟨_,(j9 (qc (xl (xz qk yU j7 (pv 1) (je (jh K) rfl nb.b_len aV (j0 (xi K (pv 0)) j2)))) (j9 (xh br x_NoLane e_NoLane rfl xJ rfl (j0 jB j2))) jw)),?_⟩
  left
  refine qO (λh0=>?_) (λh0=>?_)
  ·left
   refine ⟨p,C,g.dx,_,_,rfl,I.ob,T.cl,T.nS,zj _ _ _ _ _,?_⟩
   left
   refine ⟨_,_,rfl,.inl (SqL.of I.sl),?_⟩
   rw [hz]
   left
   refine zn (λh1=>?_) (λh1=>?_)
   ·left
    exact ⟨by show 1<=sizeLine;decide,kx (.inr ())⟩
   ·left
    exact k h0 h1
  ·left
   refine yH ?_
   left
   exact ⟨by show 1<=sizeLine;decide,kx (.inl ())⟩
noncomputable def yg (C CN CP:Addr):Sp:=λvs H Q E=>∃(p:Addr) (g:IceG) (l n:Int),vs=[.ref p,.int l,.int n]/\IceAt C H p g/\(0<=l->l<(g.slopes.length:Int)->0<=n->n<((g.slopes.getD l.toNat []).length:Int)->Q .non H) /\
 (l<0\/(g.slopes.length:Int)<=l->E (.ref CN) none H)/\(0<=l->l<(g.slopes.length:Int)->(n<0\/((g.slopes.getD l.toNat []).length:Int)<=n)->E (.ref CP) none H)
theorem yQ:FnScope ["self","lane","place"] ["self","lane","place"] (j8 xm):=by walk_at "s"
theorem yR {f C CN CP:Addr}{fd:FuncData}(nb:Nb2 mg) (T:IceC K C) (e_NoPlace:mg "NoPlace" = some (.ref CP)) (x_NoPlace:cN K CP [.type "ValueError",.type "Exception",.type "BaseException",.type "object"] "ValueError.__new__" = true) (cl_Ice:Cls K C) (c_Ice__check_lane:CalMX P w K mg base 1 C "check_lane" ["self","lane"] (xP C CN)) (F:Fun K "check_place" "Ice.check_place" xm f fd):FnOk P w K mg base (CX1 P w) 2 f fd ["self","lane","place"] (yg C CN CP):=by
 refine Fun.okX F yQ (λvs H Q E h=>?_) (λcdv A outer s H vs Q E hr h=>?_)
 ·obtain ⟨p,g,l,n,rfl,_⟩:=h
  rfl
 ·obtain ⟨p,g,l,n,rfl,I,k,kx,ky⟩:=h
  refine ⟨_,(j4 (jY (zR (pv 0) cl_Ice c_Ice__check_lane (hr.mono ⋯) qE (j0 (pv 1) j2)))
   (j9 (qc (xl (xz qk yU j7 (pv 2) (je (jh K) rfl nb.b_len aV (j0 (js (jd K) (xi K (pv 0)) (pv 1) (λ_ _=>rfl)) j2)))) (j9 (xh br x_NoPlace e_NoPlace rfl xJ rfl (j0 jB j2))) jw))),?_⟩
  left
  refine ⟨p,g.dx,_,rfl,I.ob,qJ ∅,?_⟩
  left
  refine ⟨p,g,l,rfl,I,λl0 l1=>?_,λhb=>kx hb⟩
  obtain ⟨a,ha,hla⟩:=J9 I l0 l1
  left
  refine qO (λh0=>?_) (λh0=>?_)
  ·left
   refine ⟨p,C,g.dx,_,_,rfl,I.ob,T.cl,T.nS,zj _ _ _ _ _,?_⟩
   left
   refine ⟨_,_,_,_,rfl,rfl,SqL.of I.sl,ha,?_⟩
   left
   refine ⟨_,_,rfl,.inl (SqL.of hla),?_⟩
   rw [ah]
   left
   refine zn (λh1=>?_) (λh1=>?_)
   ·left
    exact ⟨by show 1<=sizeLine;decide,ky l0 l1 (.inr ())⟩
   ·left
    exact k l0 l1 h0 h1
  ·left
   refine yH ?_
   left
   exact ⟨by show 1<=sizeLine;decide,ky l0 l1 (.inl ())⟩
noncomputable def gJ (C CN:Addr):Sp:=λvs H Q E=>∃(p:Addr) (g:IceG) (l:Int),vs=[.ref p,.int l]/\IceAt C H p g/\(0<=l->l<(g.slopes.length:Int)->Q (.int ((g.slopes.getD l.toNat []).length:Int)) H)/\(l<0\/(g.slopes.length:Int)<=l->E (.ref CN) none H)
theorem we:FnScope ["self","lane"] ["self","lane"] (j8 zE):=by walk_at "s"
theorem wI {f C CN:Addr}{fd:FuncData}(nb:Nb2 mg) (T:IceC K C) (cl_Ice:Cls K C) (c_Ice__check_lane:CalMX P w K mg base 1 C "check_lane" ["self","lane"] (xP C CN)) (F:Fun K "length" "Ice.length" zE f fd):FnOk P w K mg base (CX1 P w) 2 f fd ["self","lane"] (gJ C CN):=by
 refine Fun.okX F we (λvs H Q E h=>?_) (λcdv A outer s H vs Q E hr h=>?_)
 ·obtain ⟨p,g,l,rfl,_⟩:=h
  rfl
 ·obtain ⟨p,g,l,rfl,I,k,kx⟩:=h
  refine ⟨_,(j4 (jY (zR (pv 0) cl_Ice c_Ice__check_lane (hr.mono ⋯) qE (j0 (pv 1) j2)))
   (j9 (jm (je (jh K) rfl nb.b_len aV (j0 (js (jd K) (xi K (pv 0)) (pv 1) (λ_ _=>rfl)) j2))))),?_⟩
  left
  refine ⟨p,g.dx,_,rfl,I.ob,qJ ∅,?_⟩
  left
  refine ⟨p,g,l,rfl,I,λl0 l1=>?_,λhb=>kx hb⟩
  obtain ⟨a,ha,hla⟩:=J9 I l0 l1
  left
  refine ⟨p,C,g.dx,_,_,rfl,I.ob,T.cl,T.nS,zj _ _ _ _ _,?_⟩
  left
  refine ⟨_,_,_,_,rfl,rfl,SqL.of I.sl,ha,?_⟩
  left
  refine ⟨_,_,rfl,.inl (SqL.of hla),?_⟩
  rw [ah]
  exact k l0 l1
noncomputable def gx (C CN CP:Addr):Sp:=λvs H Q E=>∃(p:Addr) (g:IceG) (l n:Int),vs=[.ref p,.int l,.int n]/\IceAt C H p g/\(0<=l->l<(g.slopes.length:Int)->0<=n->n<((g.slopes.getD l.toNat []).length:Int)->Q (.int ((g.slopes.getD l.toNat []).getD n.toNat 0)) H) /\
 (l<0\/(g.slopes.length:Int)<=l->E (.ref CN) none H)/\(0<=l->l<(g.slopes.length:Int)->(n<0\/((g.slopes.getD l.toNat []).length:Int)<=n)->E (.ref CP) none H)
theorem kz:FnScope ["self","lane","place"] ["self","lane","place"] (j8 zC):=by walk_at "s"
theorem ko {f C CN CP:Addr}{fd:FuncData}(nb:Nb2 mg) (T:IceC K C) (cl_Ice:Cls K C) (c_Ice__check_place:CalMX P w K mg base 2 C "check_place" ["self","lane","place"] (yg C CN CP)) (F:Fun K "height" "Ice.height" zC f fd):FnOk P w K mg base (CX1 P w) 3 f fd ["self","lane","place"] (gx C CN CP):=by
 refine Fun.okX F kz (λvs H Q E h=>?_) (λcdv A outer s H vs Q E hr h=>?_)
 ·obtain ⟨p,g,l,n,rfl,_⟩:=h
  rfl
 ·obtain ⟨p,g,l,n,rfl,I,k,kx,ky⟩:=h
  refine ⟨_,(j4 (jY (zR (pv 0) cl_Ice c_Ice__check_place (hr.mono ⋯) qE (j0 (pv 1) (j0 (pv 2) j2))))
   (j9 (jm (js (jd K) (js (jd K) (xi K (pv 0)) (pv 1) (λ_ _=>rfl)) (pv 2) (λ_ _=>rfl))))),?_⟩
  left
  refine ⟨p,g.dx,_,rfl,I.ob,qJ ∅,?_⟩
  left
  refine ⟨p,g,l,n,rfl,I,λl0 l1 n0 n1=>?_,λhb=>kx hb,λl0 l1 hb=>ky l0 l1 hb⟩
  obtain ⟨a,ha,hla⟩:=J9 I l0 l1
  left
  refine ⟨p,C,g.dx,_,_,rfl,I.ob,T.cl,T.nS,zj _ _ _ _ _,?_⟩
  left
  refine ⟨_,_,_,_,rfl,rfl,SqL.of I.sl,ha,?_⟩
  left
  refine ⟨_,_,_,_,rfl,rfl,SqL.of hla,(by rw [show n=((n.toNat:Nat):Int) by omega];exact zu (UH ())),?_⟩
  exact k l0 l1 n0 n1
noncomputable def vR (CR:Addr):Sp:=λvs H Q E=>∃(p:Addr) (xs:List V) (ts:List T3),vs=[.ref p]/\H p=some (.lst xs)/\jG H xs ts/\ts.length<=1000/\(∀H',gr ts=true->jn H H'->Q .non H')/\∀H',gr ts=false->jn H H'->E (.ref CR) none H'
theorem ki:FnScope ["rows"] ["rows"] (j8 zH):=by walk_at "s"
theorem kj {f CR:Addr}{fd:FuncData}(nb:Nb2 mg) (e_BadRound:mg "BadRound" = some (.ref CR)) (x_BadRound:cN K CR [.type "ValueError",.type "Exception",.type "BaseException",.type "object"] "ValueError.__new__" = true) (c_is_round:Cal P w K mg base 2 "is_round" ["rows"] (XV K)) (F:Fun K "check_round" "check_round" zH f fd):FnOk P w K mg base (CX1 P w) 3 f fd ["rows"] (vR CR):=by
 refine Fun.okX F ki (λvs H Q E h=>?_) (λcdv A outer s H vs Q E hr h=>?_)
 ·obtain ⟨p,xs,ts,rfl,_⟩:=h
  rfl
 ·obtain ⟨p,xs,ts,rfl,hp,hr3,h1000,k,kx⟩:=h
  refine ⟨_,(j9 (qc (xl (ya (jg c_is_round (hr.mono ⋯) rfl (j0 (pv 0) j2)))) (j9 (xh br x_BadRound e_BadRound rfl xJ rfl (j0 jB j2))) jw)),?_⟩
  left
  refine ⟨p,xs,ts,rfl,hp,hr3,h1000,λH1 s1=>?_⟩
  cases e:gr ts with
  | true =>
   left
   exact k H1 e s1
  | false =>
   left
   exact ⟨by show 1<=sizeLine;decide,kx H1 e s1⟩
noncomputable def Kp (p Pt:Addr) (H H':Hp):Prop:=∀c o,H c=some o->c≠p->c≠Pt->H' c=some o
theorem Kp.trans {p Pt:Addr}{H H1 H2:Hp}(a:Kp p Pt H H1) (b:Kp p Pt H1 H2):Kp p Pt H H2:=λc o h n m=>b c o (a c o h n m) n m
theorem Kp.of_same {p Pt:Addr}{H H':Hp}(s:jn H H'):Kp p Pt H H':=λc o h _ _=>s c o h
theorem Kp.of_ext {p Pt:Addr}{H H':Hp}(s:Ext Pt H H'):Kp p Pt H H':=λc o h _ m=>s c o h m
theorem Kp.put {p Pt:Addr}{H:Hp}{o:HO}:Kp p Pt H (upd H p o):=λc _ h n _=>by rw [j6 n];exact h
theorem Kp.at {p Pt a:Addr}{H H':Hp}{o u:HO}{ps:Array af}(k:Kp p Pt H H') (h:H a=some o) (hp:H p=some u) (hPt:H Pt=some (.tbl ps)) (n:o≠u) (m:o≠.tbl ps):H' a=some o:=k _ _ h (ji h hp n) (ji h hPt m)
theorem Kp.free {p Pt a:Addr}{H H':Hp}{u u':HO}(k:Kp p Pt H H') (h:H' a=none) (hp:H' p=some u) (hPt:H' Pt=some u'):H a=none:=by
 cases e:H a with
 | none=>rfl
 | some o =>
  have:=k a o e (λz=>by rw [z,hp] at h;cases h) (λz=>by rw [z,hPt] at h;cases h)
  rw [h] at this
  cases this
theorem vZ {H:Hp}{Pt p C dx:Addr}{fs:List (Str×V)}{o:HO}(T:qB H Pt) (hp:H p=some (.ins C dx fs)):qB (upd H p o) Pt:=by
 rcases T with h | ⟨c,h,h'⟩
 ·exact .inl (by rw [j6 (ji h hp (by walk_at "z"))];exact h)
 ·exact .inr ⟨c,by rw [j6 (ji h hp (by walk_at "z"))];exact h,by rw [j6 (ji h' hp (by walk_at "z"))];exact h'⟩
theorem jk.kp {p Pt C dx:Addr}{H H':Hp}{fs:List (Str×V)}{ps:Array af}(k:Kp p Pt H H') (hp:H p=some (.ins C dx fs)) (hPt:H Pt=some (.tbl ps)):jk H H':=λ_ _ h=>k.at h hp hPt (by walk_at "z") (by walk_at "z")
theorem pm {α β:Type}{F:α->β->Prop}:∀{l₁:List α}{l₂:List β},cO F l₁ l₂->∀v∈l₁,∃w,F v w
 | _,_,.nil,v,h=>by cases h
 | _,_,.cons q r,v,h=>by
  rcases List.mem_cons.mp h with rfl | z
  ·exact ⟨_,q⟩
  ·exact pm r v z
theorem pmE {H H0:Hp}{a0:Addr}{zs:List V}{rows:List (List Int)}(r:cO (λv (w:List Int)=>∃a,v=V.ref a/\H a=some (.lst (w.map V.int))/\H0 a=none/\a≠a0) zs rows):∀a,V.ref a∈zs->H0 a=none/\a≠a0:=λa h=>by
 obtain ⟨w,b,e,_,z⟩:=pm r _ h
 cases e
 exact z
structure IceNew (C Pt:Addr) (H H':Hp) (p:Addr) (g:IceG):Prop where
 at_:IceAt C H' p g
 keep:∀c o,H c=some o->c≠p->c≠Pt->H' c=some o
 va:H g.va=none
 cy:H g.cy=none
 sl:H g.sl=none
 ye:H g.ye=none
 le:H g.le=none
 zs:∀a,V.ref a∈g.zs->H a=none
 kvs:g.kvs=[]
 lds:∀x∈g.lds,H x.1=none/\x.2=[]
 ll:g.lds.length=g.slopes.length
 nd:(g.lds.map (·.1)).Nodup
 ny:∀x∈g.lds,x.1≠g.ye
 sl2:∃ws,jX g.rs ws/\g.slopes=ws.map (jc g.rs)
noncomputable def Yu (C CV CR Pt:Addr):Sp:=λvs H Q E=>∃(p dx r q:Addr) (xs ys:List V) (rs:List Rch) (ts:List T3),vs=[.ref p,.ref r,.ref q]/\H p=some (.ins C dx [])/\H r=some (.lst xs)/\jU H xs rs/\H q=some (.lst ys)/\jG H ys ts/\(∀r∈rs,r.2.length<=100)/\rs.length<=60/\ts.length<=1000/\qB H Pt /\
 (∀H' g,zr rs=true->gr ts=true->IceNew C Pt H H' p g->g.rs=rs->g.rows=ts->g.xs=xs->g.ys=ys->qB H' Pt->Q .non H') /\
 (∀H',zr rs=false->Ext Pt H H'->qB H' Pt->E (.ref CV) none H')/\(∀H',zr rs=true->gr ts=false->Ext Pt H H'->qB H' Pt->E (.ref CR) none H')
theorem ux:FnScope ["self","reaches","rows"] ["self","reaches","rows"] (j8 qG):=by walk_at "s"
theorem ui {f C CV CR CN Pt:Addr}{fd:FuncData}(nb:Nb2 mg) (T:IceC K C) (e_BadValley:mg "BadValley" = some (.ref CV)) (x_BadValley:cN K CV [.type "ValueError",.type "Exception",.type "BaseException",.type "object"] "ValueError.__new__" = true)
  (c_is_valley:Cal P w K mg base 6 "is_valley" ["reaches"] (Qy K Pt)) (c_check_round:CalX P w K mg base 3 "check_round" ["rows"] (vR CR)) (c_lanes:Cal P w K mg base 5 "lanes" ["reaches"] (vB K Pt)) (c_heights:Cal P w K mg base 7 "heights" ["reaches","lane"] (λvs H Q _=>kS Pt CN vs H Q E0))
  (F:Fun K "__init__" "Ice.__init__" qG f fd):FnOk P w K mg base (CX1 P w) 8 f fd ["self","reaches","rows"] (Yu C CV CR Pt):=by
 refine Fun.okX F ux (λvs H Q E h=>?_) (λcdv A outer s H vs Q E hr h=>?_)
 ·obtain ⟨p,dx,r,q,xs,ys,rs,ts,rfl,_⟩:=h
  rfl
 ·obtain ⟨p,dx,r,q,xs,ys,rs,ts,rfl,hp,hr',hrw,hq,hr3,h100,h60,h1000,hT,k,kv,kr⟩:=h
  obtain ⟨ps,hPt⟩:=hT.ne
  refine ⟨_,(j4 (qc (xl (ya (jg c_is_valley (hr.mono ⋯) rfl (j0 (pv 1) j2)))) (j9 (xh br x_BadValley e_BadValley rfl xJ rfl (j0 jB j2))) jw)
   (j4 (jY (xW c_check_round (hr.mono ⋯) qE rfl (j0 (pv 2) j2)))
   (j4 (vS K (pv 0) (qH (qz K) rfl nb.b_list bQ (j0 (pv 1) j2)))
   (j4 (vS K (pv 0) (qH (qz K) rfl nb.b_list bQ (j0 (pv 2) j2)))
   (j4 (vS K (pv 0) (jS (osc:=(j8 qG)) (ON:=["self","reaches","rows"]) (N:=["lane","reaches"]) (own:=1) (caps:=[1]) ⟨rfl,∅,∅,∅,rfl,∅⟩ rfl rfl rfl (qd rfl nb.b_range (j0 (je (jh K) rfl nb.b_len aV (j0 (jg c_lanes (hr.mono ⋯) rfl (j0 (pv 1) j2)) j2)) j2)) (λ_ _ _ _ _=>(jb (i:=0) (show bc (["lane","reaches"]:List Str) by decide +kernel) rfl (aP rfl))) (λ_ _ _ _ _=>jH) (λ_ _ _ _ _=>(jg c_heights (hr.mono ⋯) rfl (j0 (pv 1) (j0 (pv 0) j2))))))
   (j4 (vS K (pv 0) zM)
   (j9 (vS K (pv 0) (jS (osc:=(j8 qG)) (ON:=["self","reaches","rows"]) (N:=["slope"]) (own:=1) (caps:=[]) ⟨rfl,∅,∅,∅,rfl,∅⟩ rfl rfl rfl (jT K (xi K (pv 0))) (λ_ _ _ _ _=>(jb (i:=0) (show bc (["slope"]:List Str) by decide +kernel) rfl (aP rfl))) (λ_ _ _ _ _=>jH) (λ_ _ _ _ _=>zM)))))))))),?_⟩
  left
  refine ⟨r,xs,rs,rfl,hr',hrw,h100,h60,hT,λH1 X1 T1=>?_⟩
  cases eg:zr rs with
  | false =>
   left
   exact ⟨by show 1<=sizeLine;decide,kv H1 eg X1 T1⟩
  | true =>
   have X1':∀{a:Addr} {o:HO},H a=some o->(∀ps,o≠.tbl ps)->H1 a=some o:=λ{a o} h n=>X1 _ _ h (ji h hPt (n _))
   have hp1:=X1' hp (by walk_at "w")
   have hr1:=X1' hr' (by walk_at "w")
   have hq1:=X1' hq (by walk_at "w")
   have hrw1:jU H1 xs rs:=hrw.keep (jk.tbl X1 hPt)
   have hr31:jG H1 ys ts:=hr3.imp λa t e=>X1' e (by walk_at "w")
   left
   refine ⟨q,ys,ts,rfl,hq1,hr31,h1000,λH2 egr s2=>?_,λH2 egr s2=>kr H2 eg egr (X1.trans (Ext.of_same s2)) (T1.same s2)⟩
   have L:xr rs:=qe (by unfold zr at eg;rw [aY,aY] at eg;exact eg.2.1)
   have k2:Kp p Pt H H2:=(Kp.of_ext X1).trans (Kp.of_same s2)
   have hp2:=s2 _ _ hp1
   have T2:=T1.same s2
   left
   refine ⟨_,_,rfl,.inl (SqL.of (s2 _ _ hr1)),λva H3 va2 va3 s3=>?_⟩
   have hp3:=s3 _ _ hp2
   have T3':=T2.same s3
   have k3:=k2.trans (Kp.of_same s3)
   obtain ⟨_,hPt2⟩:=T2.ne
   have va0:=k2.free va2 hp2 hPt2
   left
   refine ⟨p,C,dx,_,rfl,hp3,T.cl,T.nV,⋯,?_⟩
   have Ta:qB (upd H3 p (HO.ins C dx (jp "valley" (V.ref va) []))) Pt:=vZ T3' hp3
   have ka:=k3.trans (Kp.put (p:=p) (Pt:=Pt) (o:=HO.ins C dx (jp "valley" (V.ref va) [])))
   have pa:upd H3 p (HO.ins C dx (jp "valley" (V.ref va) [])) p=some (HO.ins C dx (jp "valley" (V.ref va) [])):=j5
   have vaa:upd H3 p (HO.ins C dx (jp "valley" (V.ref va) [])) va=some (HO.lst xs):=by rw [j6 (j1 hp2 va2).symm];exact va3
   clear k2 k3 hp1 hr1 hq1 hrw1 hr31 X1' X1 T1 s2 hp2 T2 s3 hp3 T3' va3 va2 hPt2
   generalize upd H3 p (HO.ins C dx (jp "valley" (V.ref va) []))=Ha at *
   obtain ⟨_,hPta⟩:=Ta.ne
   have vaP:va≠Pt:=ji vaa hPta (by walk_at "z")
   have vap:va≠p:=ji vaa pa (by walk_at "z")
   left
   refine ⟨_,_,rfl,.inl (SqL.of (ka.at hq hp hPt (by walk_at "z") (by walk_at "z"))),λcy H4 cya cy4 s4=>?_⟩
   have hp4:=s4 _ _ pa
   have T4:=Ta.same s4
   have cy0:=ka.free cya pa hPta
   left
   refine ⟨p,C,dx,_,rfl,hp4,T.cl,T.nC,bO (jR _ _ _) ⋯,?_⟩
   have kb:=(ka.trans (Kp.of_same s4)).trans (Kp.put (p:=p) (Pt:=Pt) (o:=HO.ins C dx (jp "cycle" (V.ref cy) (jp "valley" (V.ref va) []))))
   have Tb:qB (upd H4 p (HO.ins C dx (jp "cycle" (V.ref cy) (jp "valley" (V.ref va) [])))) Pt:=vZ T4 hp4
   have pb:upd H4 p (HO.ins C dx (jp "cycle" (V.ref cy) (jp "valley" (V.ref va) []))) p=some (HO.ins C dx (jp "cycle" (V.ref cy) (jp "valley" (V.ref va) []))):=j5
   have vab:upd H4 p (HO.ins C dx (jp "cycle" (V.ref cy) (jp "valley" (V.ref va) []))) va=some (HO.lst xs):=by rw [j6 vap];exact s4 _ _ vaa
   have cyb:upd H4 p (HO.ins C dx (jp "cycle" (V.ref cy) (jp "valley" (V.ref va) []))) cy=some (HO.lst ys):=by rw [j6 (j1 pa cya).symm];exact cy4
   clear ka Ta pa vaa s4 hp4 T4 cya cy4 hPta
   generalize upd H4 p (HO.ins C dx (jp "cycle" (V.ref cy) (jp "valley" (V.ref va) [])))=Hb at *
   obtain ⟨_,hPtb⟩:=Tb.ne
   have cyP:cy≠Pt:=ji cyb hPtb (by walk_at "z")
   have cyp:cy≠p:=ji cyb pb (by walk_at "z")
   have pP:p≠Pt:=ji pb hPtb (by walk_at "z")
   left
   refine ⟨r,xs,rs,rfl,kb.at hr' hp hPt (by walk_at "z") (by walk_at "z"),hrw.keep (jk.kp kb hp hPt),L,h60,Tb,λo H5 out ws ho ho5 hw hR X5 T5=>?_⟩
   left
   refine ⟨_,_,rfl,.inl (SqL.of ho5),?_⟩
   have hlen:out.length=ws.length:=hw.length
   have hws:ws.length<=60:=by
    rw [hR.length]
    unfold jq
    exact aG (bX _ _) (by rw [bg];exact h60)
   refine ⟨(out.length:Int),rfl,(),(),λacc hacc=>?_⟩
   obtain ⟨_,hPt5⟩:=T5.ne
   have kb5:Kp p Pt H H5:=kb.trans (Kp.of_ext X5)
   have hp5:=X5 _ _ pb pP
   have va5:=X5 _ _ vab vaP
   have cy5:=X5 _ _ cyb cyP
   have hr5:H5 r=some (.lst xs):=kb5.at hr' hp hPt (by walk_at "z") (by walk_at "z")
   have hrw5:jU H5 xs rs:=hrw.keep (jk.kp kb5 hp hPt)
   have accP:Pt≠acc:=j1 hPt5 hacc
   refine xn (lo:=0) (n:=((out.length:Int)).toNat) (acc:=acc) (λi σ H6=>∃(x:Option V) (zs:List V),σ=[x,some (.ref r)]/\H6 acc=some (.lst zs)/\zs.length=i/\cO (λv (w:List Int)=>∃a,v=V.ref a/\H6 a=some (.lst (w.map V.int))/\H5 a=none/\a≠acc) zs ((ws.take i).map (jc rs))/\Kp acc Pt H5 H6/\qB H6 Pt) ?_ ?_ ?_
   ·exact ⟨none,[],rfl,j5,rfl,.nil,Kp.put,T5.extN hacc Ext.put⟩
   ·rintro i σ H6 hi ⟨x,zs,rfl,h6,hz,r6,k6,T6⟩
    obtain ⟨_,hPt6⟩:=T6.ne
    have iw:i<ws.length:=()
    left
    refine ⟨r,xs,rs,_,rfl,k6 _ _ hr5 (j1 hr5 hacc) (ji hr5 hPt5 (by walk_at "z")),hrw5.keep (λa o h=>k6 _ _ h (j1 h hacc) (ji h hPt5 (by walk_at "z"))),L,h60,h100,T6,λt H7 ws' i' ei hi' hR' ht ht7 X7 T7=>?_,λH' hb _ _=>?_⟩
    ·obtain rfl:=hR.unique hR'
     obtain rfl:i'=i:=()
     have h7:=X7 _ _ h6 accP.symm
     have ta:t≠acc:=(j1 h6 ht).symm
     have tP:t≠Pt:=(j1 hPt6 ht).symm
     refine ⟨zs,h7,jj (),some (.int (0+(i':Int))),zs++[.ref t],rfl,j5,by rw [aq,hz];rfl,?_,?_,?_⟩
     ·rw [qy (jc rs) ws i' (ws.getD i' []) (by rw [ak,ae iw];rfl)]
      refine cP (Paired.mapP r6 λv wy ⟨a,e,ha,h0,na⟩=>⟨a,e,?_,h0,na⟩) ⟨t,rfl,by rw [j6 ta];exact ht7,k6.free ht h6 hPt6,ta⟩
      rw [j6 na]
      exact X7 _ _ ha (ji ha hPt6 (by walk_at "z"))
     ·exact (k6.trans (Kp.of_ext X7)).trans Kp.put
     ·exact T7.ext h7 Ext.put
    ·have:=hR.length
     exact absurd hb ()
   ·rintro σ H6 ⟨x,zs,rfl,h6,hz,r6,k6,T6⟩
    rw [bw,hlen,aZ] at r6
    have f6:=pmE r6
    have hp6:=k6 _ _ hp5 (j1 hp5 hacc) pP
    have kc:Kp p Pt H (upd H6 p (HO.ins C dx (jp "slopes" (V.ref acc) (jp "cycle" (V.ref cy) (jp "valley" (V.ref va) []))))):=λc o h n m=>by
     rw [j6 n]
     have:=kb5 c o h n m
     exact k6 _ _ this (j1 this hacc) m
    have acp:acc≠p:=(j1 hp5 hacc).symm
    have acc0:=kb5.free hacc hp5 hPt5
    have zs0:∀a,V.ref a∈zs->H a=none:=λa z=>kb5.free (f6 a z).1 hp5 hPt5
    left
    refine ⟨p,C,dx,_,rfl,hp6,T.cl,T.nS,bO (aG (jR _ _ _) (cK (jR _ _ _))) ⋯,?_⟩
    have Tc:qB (upd H6 p (HO.ins C dx (jp "slopes" (V.ref acc) (jp "cycle" (V.ref cy) (jp "valley" (V.ref va) []))))) Pt:=vZ T6 hp6
    have pc:upd H6 p (HO.ins C dx (jp "slopes" (V.ref acc) (jp "cycle" (V.ref cy) (jp "valley" (V.ref va) [])))) p=some (HO.ins C dx (jp "slopes" (V.ref acc) (jp "cycle" (V.ref cy) (jp "valley" (V.ref va) [])))):=j5
    have vac:upd H6 p (HO.ins C dx (jp "slopes" (V.ref acc) (jp "cycle" (V.ref cy) (jp "valley" (V.ref va) [])))) va=some (HO.lst xs):=by rw [j6 vap];exact k6 _ _ va5 (j1 va5 hacc) vaP
    have cyc:upd H6 p (HO.ins C dx (jp "slopes" (V.ref acc) (jp "cycle" (V.ref cy) (jp "valley" (V.ref va) [])))) cy=some (HO.lst ys):=by rw [j6 cyp];exact k6 _ _ cy5 (j1 cy5 hacc) cyP
    have slc:upd H6 p (HO.ins C dx (jp "slopes" (V.ref acc) (jp "cycle" (V.ref cy) (jp "valley" (V.ref va) [])))) acc=some (HO.lst zs):=by rw [j6 acp];exact h6
    have slsc:yj (upd H6 p (HO.ins C dx (jp "slopes" (V.ref acc) (jp "cycle" (V.ref cy) (jp "valley" (V.ref va) []))))) zs (ws.map (jc rs)):=Paired.mapP r6 λv wy ⟨a,e,ha,h0,na⟩=>⟨a,e,by rw [j6 (j1 hp5 h0).symm];exact ha⟩
    clear r6 f6 k6 T6 h6 hp6 kb5 hp5 va5 cy5 hr5 hrw5 X5 T5 kb Tb pb vab cyb hPtb accP hacc ho ho5 hw hPt5
    generalize upd H6 p (HO.ins C dx (jp "slopes" (V.ref acc) (jp "cycle" (V.ref cy) (jp "valley" (V.ref va) []))))=Hc at *
    left
    intro ye hye
    obtain ⟨_,hPtc⟩:=Tc.ne
    have ye0:=kc.free hye pc hPtc
    have yep:ye≠p:=(j1 pc hye).symm
    have s9:jn Hc (upd Hc ye (.dK [])):=jn.new hye
    left
    refine ⟨p,C,dx,_,rfl,s9 _ _ pc,T.cl,T.nY,bO (aG (jR _ _ _) (cK (aG (jR _ _ _) (cK (jR _ _ _))))) ⋯,?_⟩
    have d_of:∀c o,Hc c=some o->c≠p->(upd (upd Hc ye (HO.dK [])) p (HO.ins C dx (jp "years" (V.ref ye) (jp "slopes" (V.ref acc) (jp "cycle" (V.ref cy) (jp "valley" (V.ref va) [])))))) c=some o:=λc o h n=>by rw [j6 n];exact s9 _ _ h
    have kd:Kp p Pt H (upd (upd Hc ye (HO.dK [])) p (HO.ins C dx (jp "years" (V.ref ye) (jp "slopes" (V.ref acc) (jp "cycle" (V.ref cy) (jp "valley" (V.ref va) [])))))):=(kc.trans (Kp.of_same s9)).trans Kp.put
    have Td:qB (upd (upd Hc ye (HO.dK [])) p (HO.ins C dx (jp "years" (V.ref ye) (jp "slopes" (V.ref acc) (jp "cycle" (V.ref cy) (jp "valley" (V.ref va) [])))))) Pt:=vZ (Tc.same s9) (s9 _ _ pc)
    have pd:(upd (upd Hc ye (HO.dK [])) p (HO.ins C dx (jp "years" (V.ref ye) (jp "slopes" (V.ref acc) (jp "cycle" (V.ref cy) (jp "valley" (V.ref va) [])))))) p=some (HO.ins C dx (jp "years" (V.ref ye) (jp "slopes" (V.ref acc) (jp "cycle" (V.ref cy) (jp "valley" (V.ref va) []))))):=j5
    have vad:=d_of _ _ vac vap
    have cyd:=d_of _ _ cyc cyp
    have sld:=d_of _ _ slc acp
    have yed:(upd (upd Hc ye (HO.dK [])) p (HO.ins C dx (jp "years" (V.ref ye) (jp "slopes" (V.ref acc) (jp "cycle" (V.ref cy) (jp "valley" (V.ref va) [])))))) ye=some (.dK []):=by rw [j6 yep];exact j5
    have slsd:yj (upd (upd Hc ye (HO.dK [])) p (HO.ins C dx (jp "years" (V.ref ye) (jp "slopes" (V.ref acc) (jp "cycle" (V.ref cy) (jp "valley" (V.ref va) [])))))) zs (ws.map (jc rs)):=Paired.mapP slsc λv wy ⟨a,e,ha⟩=>⟨a,e,d_of _ _ ha (ji ha pc (by walk_at "z"))⟩
    clear d_of kc Tc pc vac cyc slc slsc hye hPtc s9
    generalize (upd (upd Hc ye (HO.dK [])) p (HO.ins C dx (jp "years" (V.ref ye) (jp "slopes" (V.ref acc) (jp "cycle" (V.ref cy) (jp "valley" (V.ref va) []))))))=Hd at *
    obtain ⟨_,hPtd⟩:=Td.ne
    left
    refine ⟨p,C,dx,_,_,rfl,pd,T.cl,T.nS,(by rw [jv,if_neg ∅,jv,if_pos rfl]),?_⟩
    left
    refine ⟨⟨_,SqL.of sld⟩,λle hle=>?_⟩
    have lep:le≠p:=(j1 pd hle).symm
    have le0:=kd.free hle pd hPtd
    have zl:zs.length<=60:=()
    refine qp (K:=K) (a:=acc) (xs:=zs) (acc:=le) (λi σ He=>∃(x:Option V) (lds:List (Addr×List (Key×V))),σ=[x]/\He le=some (.lst (lds.map λx=>V.ref x.1))/\lds.length=i/\(∀x∈lds,He x.1=some (.dK x.2)/\x.2=[]/\Hd x.1=none/\x.1≠le)/\(lds.map (·.1)).Nodup/\Ext le Hd He) ?_ ?_ ?_ ?_
    ·exact ⟨none,[],rfl,j5,rfl,(λx z=>by cases z),fN,Ext.put⟩
    ·rintro i σ He hi ⟨x,lds,rfl,he,hl,hd,nn,e⟩
     exact SqL.of (e _ _ sld (j1 sld hle))
    ·rintro i v σ He hv ⟨x,lds,rfl,he,hl,hd,nn,e⟩
     have hi:=(List.getElem?_eq_some_iff.mp hv).1
     left
     intro d hd0
     have dl:d≠le:=(j1 he hd0).symm
     refine ⟨_,(by rw [j6 (cq dl)];exact he),by rw [ah];exact jj (),some v,lds++[(d,[])],rfl,(by rw [j5,aA];rfl),(by rw [aq,hl];rfl),λy hy=>?_,?_,λc o hc n=>?_⟩
     ·rcases List.mem_append.mp hy with z | z
      ·obtain ⟨h1,h2,h3,h4⟩:=hd y z
       exact ⟨by rw [j6 h4,j6 (j1 h1 hd0)];exact h1,h2,h3,h4⟩
      ·obtain rfl:y=(d,[]):=by simpa using z
       exact ⟨by rw [j6 dl];exact j5,rfl,e.free hd0 dl,dl⟩
     ·rw [aA]
      refine uY nn λz=>?_
      obtain ⟨y,hy,ey⟩:=List.mem_map.mp z
      have:=(hd y hy).1
      rw [ey,hd0] at this
      cases this
     ·rw [j6 n,j6 (j1 (e c o hc n) hd0)]
      exact e c o hc n
    ·rintro σ He ⟨x,lds,rfl,he,hl,hd,nn,e⟩
     have hpe:=e _ _ pd (j1 pd hle)
     left
     refine ⟨p,C,dx,_,rfl,hpe,T.cl,T.nL,bO (aG (jR _ _ _) (cK (aG (jR _ _ _) (cK (aG (jR _ _ _) (cK (jR _ _ _))))))) ⋯,?_⟩
     have f_of:∀c o,Hd c=some o->c≠p->upd He p (HO.ins C dx (jp "leaps" (V.ref le) (jp "years" (V.ref ye) (jp "slopes" (V.ref acc) (jp "cycle" (V.ref cy) (jp "valley" (V.ref va) [])))))) c=some o:=λc o h n=>by rw [j6 n];exact e _ _ h (j1 h hle)
     have kf:Kp p Pt H (upd He p (HO.ins C dx (jp "leaps" (V.ref le) (jp "years" (V.ref ye) (jp "slopes" (V.ref acc) (jp "cycle" (V.ref cy) (jp "valley" (V.ref va) []))))))):=λc o h n m=>f_of c o (kd c o h n m) n
     have hnp:∀x∈lds,x.1≠p:=λx hx=>(j1 pd (hd x hx).2.2.1).symm
     refine k _ { dx:=dx,va:=va,cy:=cy,sl:=acc,ye:=ye,le:=le,xs:=xs,ys:=ys,zs:=zs,lds:=lds,kvs:=[],rs:=rs,rows:=ts,slopes:=ws.map (jc rs) } eg egr ⟨⟨j5,f_of _ _ vad vap,hrw.keep (jk.kp kf hp hPt),f_of _ _ cyd cyp,hr3.imp λa t e=>kf.at e hp hPt (by walk_at "z") (by walk_at "z"),f_of _ _ sld acp,Paired.mapP slsd λv wy ⟨a,e,ha⟩=>⟨a,e,f_of _ _ ha (ji ha pd (by walk_at "z"))⟩,f_of _ _ yed yep,(by rw [j6 lep];exact he),λx hx=>by rw [j6 (hnp x hx)];exact (hd x hx).1⟩,kf,va0,cy0,acc0,ye0,le0,zs0,rfl,λx hx=>⟨kd.free (hd x hx).2.2.1 pd hPtd,(hd x hx).2.1⟩,hl.trans (aX slsd),nn,λx hx=>(j1 yed (hd x hx).2.2.1).symm,ws,hR,rfl⟩ rfl rfl rfl rfl (vZ (Td.extN hle e) hpe)
noncomputable def yE (CY:Addr):Sp:=λvs H Q E=>∃y:Int,vs=[.int y]/\(0<=y->y<=99->Q .non H)/\(y<0\/99<y->E (.ref CY) none H)
theorem kN:FnScope ["year"] ["year"] (j8 y4):=by walk_at "s"
theorem kR {f CY:Addr}{fd:FuncData}{u0:Tok}(g_LAST_TOLD:mg "LAST_TOLD" = some (.int 99 u0)) (e_BadYear:mg "BadYear" = some (.ref CY)) (x_BadYear:cN K CY [.type "ValueError",.type "Exception",.type "BaseException",.type "object"] "ValueError.__new__" = true) (F:Fun K "check_told" "check_told" y4 f fd):FnOk P w K mg base (CX1 P w) 1 f fd ["year"] (yE CY):=by
 refine Fun.okX F kN (λvs H Q E h=>?_) (λcdv A outer s H vs Q E hr h=>?_)
 ·obtain ⟨y,rfl,_⟩:=h
  rfl
 ·obtain ⟨y,rfl,k,kx⟩:=h
  refine ⟨_,(j9 (qc (xl (xz qk qk j7 (pv 0) (xj (v:=V.int 99) rfl g_LAST_TOLD ⟨_,rfl⟩))) (j9 (xh br x_BadYear e_BadYear rfl xJ rfl (j0 jB j2))) jw)),?_⟩
  left
  refine qO (λh0=>?_) (λh0=>?_)
  ·left
   refine zn (λh1=>?_) (λh1=>?_)
   ·left
    exact ⟨by show 1<=sizeLine;decide,kx (.inr ())⟩
   ·left
    exact k h0 h1
  ·left
   refine yH ?_
   left
   exact ⟨by show 1<=sizeLine;decide,kx (.inl ())⟩
theorem IceAt.years {C p:Addr}{H H':Hp}{g:IceG}{kvs:List (Key×V)}(I:IceAt C H p g) (hn:∀x∈g.lds,x.1≠g.ye) (e:Ext g.ye H H') (h:H' g.ye=some (.dK kvs)):IceAt C H' p { g with kvs:=kvs }:=by
 have f:∀{c:Addr} {o:HO},H c=some o->o≠.dK g.kvs->H' c=some o:=λh n=>e _ _ h (ji h I.ye n)
 exact ⟨f I.ob (by walk_at "z"),f I.va (by walk_at "z"),I.rs.keep λ_ _ q=>f q (by walk_at "z"),f I.cy (by walk_at "z"),I.rows.imp λ_ _ q=>f q (by walk_at "z"),f I.sl (by walk_at "z"),Paired.mapP I.slopes λv w ⟨a,ea,q⟩=>⟨a,ea,f q (by walk_at "z")⟩,h,f I.le (by walk_at "z"),λx hx=>e _ _ (I.lds x hx) (hn x hx)⟩
noncomputable def Yz (C CY CW:Addr):Sp:=λvs H Q E=>∃(p t:Addr) (g:IceG) (y:Int) (r:T3),vs=[.ref p,.int y,.ref t]/\IceAt C H p g/\(∀x∈g.lds,x.1≠g.ye)/\H t=some (yd r)/\g.kvs.length<=1000 /\
 (∀H',0<=y->y<=99->good r=true->Ext g.ye H H'->IceAt C H' p { g with kvs:=qt g.kvs (.inl y) (.ref t) }->Q .non H')/\(y<0\/99<y->E (.ref CY) none H)/\(0<=y->y<=99->good r=false->E (.ref CW) none H)
theorem Jb:FnScope ["self","year","row"] ["self","year","row"] (j8 yJ):=by walk_at "s"
theorem Jw {f C CY CW:Addr}{fd:FuncData}(nb:Nb2 mg) (T:IceC K C) (e_BadWeather:mg "BadWeather" = some (.ref CW)) (x_BadWeather:cN K CW [.type "ValueError",.type "Exception",.type "BaseException",.type "object"] "ValueError.__new__" = true) (c_check_told:CalX P w K mg base 1 "check_told" ["year"] (yE CY)) (c_is_weather:Cal P w K mg base 1 "is_weather" ["row"] QE) (F:Fun K "tell" "Ice.tell" yJ f fd):FnOk P w K mg base (CX1 P w) 2 f fd ["self","year","row"] (Yz C CY CW):=by
 refine Fun.okX F Jb (λvs H Q E h=>?_) (λcdv A outer s H vs Q E hr h=>?_)
 ·obtain ⟨p,t,g,y,r,rfl,_⟩:=h
  rfl
 ·obtain ⟨p,t,g,y,r,rfl,I,hn,ht,hk,k,ky,kw⟩:=h
  refine ⟨_,(j4 (jY (xW c_check_told (hr.mono ⋯) qE rfl (j0 (pv 1) j2)))
   (j4 (qc (xl (ya (jg c_is_weather (hr.mono ⋯) rfl (j0 (pv 2) j2)))) (j9 (xh br x_BadWeather e_BadWeather rfl xJ rfl (j0 jB j2))) jw)
   (j9 (xY (jQ hr) (xi K (pv 0)) (pv 1) (pv 2) rfl)))),?_⟩
  left
  refine ⟨λh0 h1=>?_,λhb=>ky hb⟩
  left
  refine ⟨t,r,rfl,ht,?_⟩
  cases eg:good r with
  | false =>
   left
   exact ⟨by show 1<=sizeLine;decide,kw h0 h1 eg⟩
  | true =>
   left
   refine ⟨p,C,g.dx,_,_,rfl,I.ob,T.cl,T.nY,wV _ _ _ _ _,?_⟩
   left
   refine ⟨g.ye,_,rfl,vn.k (k:=.inl y) I.ye (jj hk),?_⟩
   exact k _ h0 h1 eg Ext.put (I.years hn Ext.put j5)
noncomputable def yu (l:List (Addr×List (Key×V))) (n:Nat) (kvs:List (Key×V)):List (Addr×List (Key×V)):=l.set n ((l.getD n (0,[])).1,kvs)
theorem ZD (l:List (Addr×List (Key×V))) (n:Nat) (kvs:List (Key×V)):(yu l n kvs).map (λx=>V.ref x.1)=l.map λx=>V.ref x.1:=by
 unfold yu
 rw [List.map_set]
 by_cases h:n<l.length
 ·rw [ak,ae h]
  refine lh λi=>?_
  rw [fP]
  by_cases e:n=i
  ·subst e
   rw [if_pos rfl,ah,if_pos h,ax,ae h]
   rfl
  ·rw [if_neg e]
 ·rw [List.set_eq_of_length_le (by rw [ah];omega)]
theorem IceAt.leap {C p:Addr}{H H':Hp}{g:IceG}{n:Nat}{a:Addr}{kvs kvs':List (Key×V)}(I:IceAt C H p g) (ha:g.lds[n]? = some (a,kvs)) (hn:∀x∈g.lds,x.1≠g.ye) (nd:(g.lds.map (·.1)).Nodup) (e:Ext a H H') (h:H' a=some (.dK kvs')):IceAt C H' p { g with lds:=yu g.lds n kvs' }:=by
 have hm:=aw ha
 have h0:=I.lds _ hm
 have f:∀{c:Addr} {o:HO},H c=some o->(∀z,o≠.dK z)->H' c=some o:=λh n=>e _ _ h (ji h h0 (n _))
 have hl:n<g.lds.length:=(List.getElem?_eq_some_iff.mp ha).1
 refine ⟨f I.ob (by walk_at "w"),f I.va (by walk_at "w"),I.rs.keep λ_ _ q=>f q (by walk_at "w"),f I.cy (by walk_at "w"),I.rows.imp λ_ _ q=>f q (by walk_at "w"),f I.sl (by walk_at "w"),Paired.mapP I.slopes λv w ⟨a,ea,q⟩=>⟨a,ea,f q (by walk_at "w")⟩,e _ _ I.ye (λz=>hn _ hm z.symm),(by show H' g.le=_;rw [ZD];exact f I.le (by walk_at "w")),λx hx=>?_⟩
 have hx':x∈yu g.lds n kvs':=hx
 obtain ⟨i,hi,ex⟩:=List.mem_iff_getElem.mp hx'
 have hi2:i<g.lds.length:=by unfold yu at hi;rw [il] at hi;exact hi
 have ex2:(yu g.lds n kvs')[i]? = some x:=by rw [ae hi,ex]
 unfold yu at ex2
 rw [fP] at ex2
 by_cases en:n=i
 ·rw [if_pos en,if_pos ()] at ex2
  rw [<- aO ex2,ak,ha]
  exact h
 ·rw [if_neg en] at ex2
  refine e _ _ (I.lds x (aw ex2)) λz=>en ?_
  have h1:(g.lds.map (·.1))[n]? = some a:=by rw [ax,ha];rfl
  have h2:(g.lds.map (·.1))[i]? = some a:=by rw [ax,ex2,<- z];rfl
  have l1:=(List.getElem?_eq_some_iff.mp h1).1
  have l2:=(List.getElem?_eq_some_iff.mp h2).1
  exact (List.getElem?_inj l1 nd).mp (h1.trans h2.symm)
noncomputable def XN (C CN CY CS:Addr):Sp:=λvs H Q E=>∃(p:Addr) (g:IceG) (l y m:Int),vs=[.ref p,.int l,.int y,.int m]/\IceAt C H p g/\g.lds.length=g.slopes.length/\(∀x∈g.lds,x.1≠g.ye)/\(g.lds.map (·.1)).Nodup/\(∀x∈g.lds,x.2.length<=1000) /\
 (∀H' a kvs,0<=l->l<(g.slopes.length:Int)->0<=y->y<=99->1<=m->m<=9->g.lds[l.toNat]? = some (a,kvs)->Ext a H H'->IceAt C H' p { g with lds:=yu g.lds l.toNat (qt kvs (.inl y) (.int m)) }->Q .non H') /\
 (l<0\/(g.slopes.length:Int)<=l->E (.ref CN) none H)/\(0<=l->l<(g.slopes.length:Int)->y<0\/99<y->E (.ref CY) none H)/\(0<=l->l<(g.slopes.length:Int)->0<=y->y<=99->m<1\/9<m->E (.ref CS) none H)
theorem kK:FnScope ["self","lane","year","many"] ["self","lane","year","many"] (j8 y9):=by walk_at "s"
theorem kM {f C CN CY CS:Addr}{fd:FuncData}{u0:Tok}(nb:Nb2 mg) (T:IceC K C) (cl_Ice:Cls K C) (g_GREATEST_SURGE:mg "GREATEST_SURGE" = some (.int 9 u0)) (e_BadSurge:mg "BadSurge" = some (.ref CS)) (x_BadSurge:cN K CS [.type "ValueError",.type "Exception",.type "BaseException",.type "object"] "ValueError.__new__" = true) (c_Ice__check_lane:CalMX P w K mg base 1 C "check_lane" ["self","lane"] (xP C CN)) (c_check_told:CalX P w K mg base 1 "check_told" ["year"] (yE CY)) (F:Fun K "surge" "Ice.surge" y9 f fd):FnOk P w K mg base (CX1 P w) 2 f fd ["self","lane","year","many"] (XN C CN CY CS):=by
 refine Fun.okX F kK (λvs H Q E h=>?_) (λcdv A outer s H vs Q E hr h=>?_)
 ·obtain ⟨p,g,l,y,m,rfl,_⟩:=h
  rfl
 ·obtain ⟨p,g,l,y,m,rfl,I,hll,hn,nd,hk,k,kn,ky,ks⟩:=h
  refine ⟨_,(j4 (jY (zR (pv 0) cl_Ice c_Ice__check_lane (hr.mono ⋯) qE (j0 (pv 1) j2)))
   (j4 (jY (xW c_check_told (hr.mono ⋯) qE rfl (j0 (pv 2) j2)))
   (j4 (qc (xl (xz qk qk j7 (pv 3) (xj (v:=V.int 9) rfl g_GREATEST_SURGE ⟨_,rfl⟩))) (j9 (xh br x_BadSurge e_BadSurge rfl xJ rfl (j0 jB j2))) jw)
   (j9 (xY (jQ hr) (js (jd K) (xi K (pv 0)) (pv 1) (λ_ _=>rfl)) (pv 2) (pv 3) rfl))))),?_⟩
  left
  refine ⟨p,g.dx,_,rfl,I.ob,qJ ∅,?_⟩
  left
  refine ⟨p,g,l,rfl,I,λl0 l1=>?_,λhb=>kn hb⟩
  left
  refine ⟨λh0 h1=>?_,λhb=>ky l0 l1 hb⟩
  have hi:l.toNat<g.lds.length:=()
  left
  refine qO (λm0=>?_) (λm0=>?_)
  ·left
   refine zn (λm1=>?_) (λm1=>?_)
   ·left
    exact ⟨by show 1<=sizeLine;decide,ks l0 l1 h0 h1 (.inr ())⟩
   ·left
    refine ⟨p,C,g.dx,_,_,rfl,I.ob,T.cl,T.nL,vt _ _ _ _ _,?_⟩
    left
    refine ⟨_,_,_,_,rfl,rfl,SqL.of I.le,x3 l0 (v:=V.ref (g.lds[l.toNat]'hi).1) (by rw [ax,ae hi];rfl),?_⟩
    left
    have h0':=I.lds _ (bU hi)
    refine ⟨_,_,rfl,vn.k (k:=.inl y) h0' (jj (hk _ (bU hi))),?_⟩
    exact k _ _ _ l0 l1 h0 h1 m0 m1 (ae hi) Ext.put (I.leap (ae hi) hn nd Ext.put j5)
  ·left
   refine yH ?_
   left
   exact ⟨by show 1<=sizeLine;decide,ks l0 l1 h0 h1 (.inl ())⟩
noncomputable def kvI (q:Int×Int):Key×V:=(.inl q.1,.int q.2)
noncomputable def qQ:List (Int×Int)->Int->Int
 | [],_=>0
 | q::r,y=>if q.1=y then q.2 else qQ r y
theorem yO:∀(ns:List (Int×Int)) (y:Int),y∈ns.map (·.1)->jP (ns.map kvI) (.inl y)=some (.int (qQ ns y))
 | [],y,h=>by cases h
 | q::r,y,h=>by
  rw [aJ]
  unfold jP qQ
  by_cases e:q.1=y
  ·subst e
   simp [kvI,List.find?]
  ·have h':y∈r.map (·.1):=by
    rcases List.mem_cons.mp h with z | z
    ·exact absurd z.symm e
    ·exact z
   have ih:=yO r y h'
   unfold jP at ih
   simp [kvI,List.find?,e] at ih ⊢
   exact ih
theorem JX:∀(ns:List (Int×Int)),(ns.map (·.1)).Nodup->(ns.map (·.1)).map (λy=>(y,qQ ns y))=ns
 | [],_=>rfl
 | q::r,nd=>by
  rw [aJ] at nd ⊢
  obtain ⟨h1,h2⟩:=List.nodup_cons.mp nd
  rw [aJ]
  have e:qQ (q::r) q.1=q.2:=by unfold qQ;rw [if_pos rfl]
  rw [e]
  refine congrArg (q :: ·) ?_
  conv=>rhs;rw [<- JX r h2]
  refine dC λy hy=>?_
  have hne:¬q.1=y:=λz=>h1 (z ▸ hy)
  show (y,qQ (q::r) y)=_
  conv=>lhs;unfold qQ
  rw [if_neg hne]
noncomputable def yN (C CN:Addr):Sp:=λvs H Q E=>∃(p:Addr) (g:IceG) (l:Int),vs=[.ref p,.int l]/\IceAt C H p g/\g.lds.length=g.slopes.length/\(l<0\/(g.slopes.length:Int)<=l->E (.ref CN) none H) /\
 (0<=l->l<(g.slopes.length:Int)->∃(a:Addr) (ns:List (Int×Int)),g.lds[l.toNat]? = some (a,ns.map kvI)/\(ns.map (·.1)).Nodup/\ns.length<64 /\
  ∀o H' out (ms:List (Int×Int)),H o=none->H' o=some (.lst out)->cO (λv (m:Int×Int)=>∃b,v=V.ref b/\H' b=some (.tup [.int m.1,.int m.2])) out ms->jn H H'->ms.Perm ns->(ms.map (·.1)).Pairwise (· <= ·)->Q (.ref o) H')
theorem kt:FnScope ["self","lane"] ["self","lane"] (j8 xH):=by walk_at "s"
theorem wD {f C CN:Addr}{fd:FuncData}(nb:Nb2 mg) (T:IceC K C) (cl_Ice:Cls K C) (c_Ice__check_lane:CalMX P w K mg base 1 C "check_lane" ["self","lane"] (xP C CN)) (F:Fun K "surges" "Ice.surges" xH f fd):FnOk P w K mg base (CX1 P w) 2 f fd ["self","lane"] (yN C CN):=by
 refine Fun.okX F kt (λvs H Q E h=>?_) (λcdv A outer s H vs Q E hr h=>?_)
 ·obtain ⟨p,g,l,rfl,_⟩:=h
  rfl
 ·obtain ⟨p,g,l,rfl,I,hll,kx,k⟩:=h
  refine ⟨_,(j4 (jY (zR (pv 0) cl_Ice c_Ice__check_lane (hr.mono ⋯) qE (j0 (pv 1) j2)))
   (j9 (jm (jS (osc:=(j8 xH)) (ON:=["self","lane"]) (N:=["year","lane","self"]) (own:=1) (caps:=[1,0]) ⟨rfl,∅,∅,∅,rfl,∅⟩ rfl rfl rfl (jT K (je (J5 K rfl) rfl nb.b_sorted pJ (j0 (js (jd K) (xi K (pv 0)) (pv 1) (λ_ _=>rfl)) j2))) (λ_ _ _ _ _=>(jb (i:=0) (show bc (["year","lane","self"]:List Str) by decide +kernel) rfl (aP rfl))) (λ_ _ _ _ _=>jH) (λ_ _ _ _ _=>(qK (j0 (pv 0) (j0 (jI (jQ hr) (js (jd K) (xi K (pv 2)) (pv 1) (λ_ _=>rfl)) (pv 0) (λ_ _=>rfl)) j2)))))))),?_⟩
  left
  refine ⟨p,g.dx,_,rfl,I.ob,qJ ∅,?_⟩
  left
  refine ⟨p,g,l,rfl,I,λl0 l1=>?_,λhb=>kx hb⟩
  obtain ⟨a,ns,ha,nd,h64,k⟩:=k l0 l1
  have hi:=(List.getElem?_eq_some_iff.mp ha).1
  have hm:=I.lds _ (aw ha)
  have hat:atI (g.lds.map λx=>V.ref x.1) l=some (.ref a):=x3 l0 (by rw [ax,ha];rfl)
  left
  refine ⟨p,C,g.dx,_,_,rfl,I.ob,T.cl,T.nL,vt _ _ _ _ _,?_⟩
  left
  refine ⟨_,_,_,_,rfl,rfl,SqL.of I.le,hat,?_⟩
  refine ⟨a,ns.map kvI,ns.map (·.1),rfl,hm,by rw [bP,bP];rfl,by rw [ah];exact h64,λo H1 ks ho ho1 s1 hp hs=>?_⟩
  have hkl:ks.length<64:=by rw [hp.length_eq,ah];exact h64
  refine ⟨o,rfl,⟨_,SqL.of ho1⟩,λacc hacc=>?_⟩
  refine qp (K:=K) (a:=o) (xs:=ks.map V.int) (acc:=acc) (λi σ H2=>∃(x:Option V) (out:List V),σ=[x,some (.int l),some (.ref p)]/\H2 acc=some (.lst out)/\out.length=i/\cO (λv (m:Int×Int)=>∃b,v=V.ref b/\H2 b=some (.tup [.int m.1,.int m.2])) out ((ks.take i).map λy=>(y,qQ ns y))/\Ext acc H1 H2) ?_ ?_ ?_ ?_
  ·exact ⟨none,[],rfl,j5,rfl,.nil,Ext.put⟩
  ·rintro i σ H2 hi ⟨x,out,rfl,h2,hz,r2,e2⟩
   exact SqL.of (e2 _ _ ho1 (j1 ho1 hacc))
  ·rintro i v σ H2 hv ⟨x,out,rfl,h2,hz,r2,e2⟩
   obtain ⟨y,rfl,hy⟩:=uA hv
   have hiy:=(List.getElem?_eq_some_iff.mp hy).1
   have hyn:y∈ns.map (·.1):=hp.mem_iff.mp (aw hy)
   have t2:jn H H2:=λc o hc=>e2 _ _ (s1 _ _ hc) (j1 (s1 _ _ hc) hacc)
   have I2:=I.same t2
   left
   refine ⟨p,C,g.dx,_,_,rfl,I2.ob,T.cl,T.nL,vt _ _ _ _ _,?_⟩
   left
   refine ⟨_,_,_,_,rfl,rfl,SqL.of I2.le,hat,?_⟩
   left
   refine ⟨a,.int (qQ ns y),rfl,by rw [<- yO ns y hyn];exact xo.k (k:=.inl y) (t2 _ _ hm),?_⟩
   left
   refine ⟨by show 2<=sizeLine;decide,λb H3 hb hb3 s3=>?_⟩
   have h3:=s3 _ _ h2
   have bacc:b≠acc:=(j1 h2 hb).symm
   refine ⟨out,h3,jj (),some (.int y),out++[.ref b],rfl,j5,by rw [aq,hz];rfl,?_,λc o hc n=>by rw [j6 n];exact s3 _ _ (e2 c o hc n)⟩
   rw [qy (λy=>(y,qQ ns y)) ks i y hy]
   exact cP (Paired.mapP r2 λv m ⟨c,e,q⟩=>⟨c,e,by rw [j6 (ji (s3 _ _ q) h3 (by walk_at "z"))];exact s3 _ _ q⟩) ⟨b,rfl,by rw [j6 bacc];exact hb3⟩
  ·rintro σ H2 ⟨x,out,rfl,h2,hz,r2,e2⟩
   rw [ah,aZ] at r2
   have t2:jn H H2:=λc o hc=>e2 _ _ (s1 _ _ hc) (j1 (s1 _ _ hc) hacc)
   refine k acc H2 out _ (s1.free hacc) h2 r2 t2 ?_ ?_
   ·have:=hp.map λy=>(y,qQ ns y)
    rw [JX ns nd] at this
    exact this
   ·rw [bP]
    have:((λx:Int×Int=>x.1) ∘ λy=>(y,qQ ns y))=id:=rfl
    rw [this,mI]
    exact hs
noncomputable def ja (st ad:Int):List (Int×Int)->Int->Int
 | [],goal=>if goal-ad > st then goal-ad else st
 | q::r,goal=>if goal-ad<q.1 then (if goal-ad > st then goal-ad else st) else ja q.1 (ad+q.2) r goal
noncomputable def kF (H:Hp) (out:List V) (ms:List (Int×Int)):Prop:=cO (λv (m:Int×Int)=>∃b,v=V.ref b/\H b=some (.tup [.int m.1,.int m.2])) out ms
theorem kF.same {H H':Hp}{out:List V}{ms:List (Int×Int)}(h:kF H out ms) (s:jn H H'):kF H' out ms:=Paired.mapP h λ_ _ ⟨b,e,q⟩=>⟨b,e,s _ _ q⟩
noncomputable def wM:Sp:=λvs H Q _=>∃(p:Addr) (out:List V) (ms:List (Int×Int)) (goal:Int),vs=[.ref p,.int goal]/\H p=some (.lst out)/\kF H out ms/\∀H',jn H H'->Q (.int (ja 0 0 ms goal)) H'
theorem qS:FnScope ["surges","goal","start","added","year","many"] ["surges","goal"] (j8 vk):=by walk_at "s"
theorem JS {f:Addr}{fd:FuncData}(nb:Nb2 mg) (F:Fun K "earliest" "earliest" vk f fd):FnOk P w K mg base CX0 1 f fd ["surges","goal"] wM:=by
 refine F.ok qS (λvs H Q E h=>?_) (λcdv A outer s H vs Q E hr h=>?_)
 ·obtain ⟨p,out,ms,goal,rfl,_⟩:=h
  rfl
 ·obtain ⟨p,out,ms,goal,rfl,hp,hr2,k⟩:=h
  have hlen:out.length=ms.length:=aX hr2
  refine ⟨_,(j4 (jx 2 qS.nd j7)
   (j4 (jx 3 qS.nd j7)
   (j4 (qv aW rfl (jT K (pv 0)) (qx (n:=2) K rfl (jo (jb (i:=4) qS.nd rfl (aP rfl)) (jo (jb (i:=5) qS.nd rfl (aP rfl)) qw))) (j4 (qc (jD yU (jr qI (pv 1) (pv 3)) (pv 4) (jK _)) (j9 Yj) jw)
   (j4 (jx 2 qS.nd (pv 4))
   (j9 (QI (i:=3) qS.nd rfl (aP rfl) (pv 5) Xk)))))
   (j9 (jm (je (zU rfl) rfl nb.b_max oK (j0 (pv 2) (j0 (jr qI (pv 1) (pv 3)) j2)))))))),?_⟩
  left
  refine ⟨⟨_,SqL.of hp⟩,?_⟩
  refine zL (K:=K) (a:=p) (xs:=out) (λi σ H2=>∃(st ad:Int) (v4 v5:Option V),σ=[some (.ref p),some (.int goal),some (.int st),some (.int ad),v4,v5]/\jn H H2/\ja st ad (ms.drop i) goal=ja 0 0 ms goal) ?_ ?_ ?_ ?_
  ·exact ⟨0,0,_,_,rfl,jn.refl _,by rw [rX]⟩
  ·rintro i σ H2 hi ⟨st,ad,v4,v5,rfl,s2,e2⟩
   exact SqL.of (s2 _ _ hp)
  ·rintro i v σ H2 hv ⟨st,ad,v4,v5,rfl,s2,e2⟩
   obtain ⟨m,hm,b,rfl,hb⟩:=Paired.get hr2 hv
   have hi:=(List.getElem?_eq_some_iff.mp hm).1
   have ed:ms.drop i=m::ms.drop (i+1):=by
    rw [cH hi]
    have:=(List.getElem?_eq_some_iff.mp hm).2
    rw [this]
   rw [ed] at e2
   left
   refine ⟨b,_,rfl,SqT.of (s2 _ _ hb),rfl,?_⟩
   refine ⟨_,_,rfl,_,_,rfl,rfl,?_⟩
   left
   refine qO (λh1=>?_) (λh1=>?_)
   ·left
    refine ⟨_,_,rfl,?_⟩
    rw [show ja st ad (m::ms.drop (i+1)) goal=if goal-ad > st then goal-ad else st from by conv=>lhs;unfold ja;rw [if_pos h1]] at e2
    have k2:=k H2 s2
    rw [<- e2] at k2
    exact k2
   ·left
    refine ⟨_,_,_,_,rfl,s2,?_⟩
    rw [<- e2]
    conv=>rhs;unfold ja;rw [if_neg h1]
  ·rintro σ H2 ⟨st,ad,v4,v5,rfl,s2,e2⟩
   rw [hlen,List.drop_length] at e2
   left
   refine ⟨_,_,rfl,?_⟩
   have k2:=k H2 s2
   rw [<- e2] at k2
   exact k2
noncomputable def V8 (C CN:Addr):Sp:=λvs H Q E=>∃(p:Addr) (g:IceG) (l mark:Int),vs=[.ref p,.int l,.int mark]/\IceAt C H p g/\g.lds.length=g.slopes.length/\(∀H',jn H H'->l<0\/(g.slopes.length:Int)<=l->E (.ref CN) none H') /\
 (0<=l->l<(g.slopes.length:Int)->∃(a:Addr) (ns:List (Int×Int)),g.lds[l.toNat]? = some (a,ns.map kvI)/\(ns.map (·.1)).Nodup/\ns.length<64 /\
  ∀ms:List (Int×Int),ms.Perm ns->(ms.map (·.1)).Pairwise (· <= ·)->∀fst gon:Int,fst=ja 0 0 ms mark->gon=ja 0 0 ms (mark+((g.slopes.getD l.toNat []).length:Int)) ->
   (fst<gon->∀t H',jn H H'->H' t=some (.tup [.int fst,.int (gon-1)])->Q (.ref t) H')/\(¬fst<gon->∀H',jn H H'->Q .non H'))
theorem wb:FnScope ["ice","lane","mark","surges","first","gone"] ["ice","lane","mark"] (j8 QR):=by walk_at "s"
theorem U6 {f C CN:Addr}{fd:FuncData}(cl_Ice:Cls K C) (c_Ice__surges:CalMX P w K mg base 2 C "surges" ["self","lane"] (yN C CN)) (c_Ice__length:CalMX P w K mg base 2 C "length" ["self","lane"] (gJ C CN)) (c_earliest:Cal P w K mg base 1 "earliest" ["surges","goal"] wM) (F:Fun K "span" "span" QR f fd):FnOk P w K mg base (CX1 P w) 3 f fd ["ice","lane","mark"] (V8 C CN):=by
 refine Fun.okX F wb (λvs H Q E h=>?_) (λcdv A outer s H vs Q E hr h=>?_)
 ·obtain ⟨p,g,l,mark,rfl,_⟩:=h
  rfl
 ·obtain ⟨p,g,l,mark,rfl,I,hll,kx,k⟩:=h
  refine ⟨_,(j4 (jx 3 wb.nd (zR (pv 0) cl_Ice c_Ice__surges (hr.mono ⋯) qE (j0 (pv 1) j2)))
   (j4 (jx 4 wb.nd (jg c_earliest (hr.mono ⋯) rfl (j0 (pv 3) (j0 (pv 2) j2))))
   (j4 (jx 5 wb.nd (jg c_earliest (hr.mono ⋯) rfl (j0 (pv 3) (j0 (jr jN (pv 2) (zR (pv 0) cl_Ice c_Ice__length (hr.mono ⋯) qE (j0 (pv 1) j2))) j2))))
   (j9 (jm (Yo (jD yU (pv 4) (pv 5) (jK _)) (qK (j0 (pv 4) (j0 (jr qI (pv 5) j7) j2))) Js)))))),?_⟩
  left
  refine ⟨p,g.dx,_,rfl,I.ob,qJ ∅,?_⟩
  left
  refine ⟨p,g,l,rfl,I,hll,λhb=>kx H (jn.refl H) hb,λl0 l1=>?_⟩
  obtain ⟨a,ns,ha,nd,h64,k⟩:=k l0 l1
  refine ⟨a,ns,ha,nd,h64,λo H1 out ms ho ho1 hq s1 hp hs=>?_⟩
  have k:=k ms hp hs _ _ rfl rfl
  left
  refine ⟨o,out,ms,mark,rfl,ho1,hq,λH2 s2=>?_⟩
  left
  have t2:=s1.trans s2
  refine ⟨p,g.dx,_,rfl,t2 _ _ I.ob,qJ ∅,?_⟩
  left
  refine ⟨p,g,l,rfl,I.same t2,λ_ _=>?_,λhb=>absurd hb ()⟩
  left
  refine ⟨o,out,ms,_,rfl,s2 _ _ ho1,kF.same hq s2,λH3 s3=>?_⟩
  have t3:=t2.trans s3
  left
  refine qO (λh1=>?_) (λh1=>?_)
  ·left
   refine ⟨by show 2<=sizeLine;decide,λt H4 ht ht4 s4=>?_⟩
   exact k.1 h1 t H4 (t3.trans s4) ht4
  ·left
   exact k.2 h1 H3 t3
noncomputable def YU:Sp:=λvs H Q _=>∃(L b:Addr),vs=[.ref b]/\qi L H b/\∀(y:Int) (H':Hp),0<=y->y<=99->qi L H' b->Ext b H H'->Q (.int y) H'
theorem Q6:FnScope ["_law_box_here"] ["_law_box_here"] (j8 vp):=by walk_at "s"
theorem VR {v a b c:Int}(h0:0<=v) (h1:v<5) (ha:0<=a/\a<=99) (hb:0<=b/\b<=99) (hc:0<=c/\c<=99):∃n,atI [V.int a,V.int b,V.int c,V.int 99,V.int 0] v=some (V.int n)/\0<=n/\n<=99:=by
 have h:v=0\/v=1\/v=2\/v=3\/v=4:=()
 rcases h with rfl | rfl | rfl | rfl | rfl
 ·exact ⟨a,rfl,ha.1,ha.2⟩
 ·exact ⟨b,rfl,hb.1,hb.2⟩
 ·exact ⟨c,rfl,hc.1,hc.2⟩
 ·exact ⟨99,rfl,⋯,⋯⟩
 ·exact ⟨0,rfl,⋯,⋯⟩
theorem VG {f:Addr}{fd:FuncData}(c_law_take:Cal P w K mg base 2 "_law_take" ["_law_box_here","_law_size"] zk) (F:Fun K "_law_year" "_law_year" vp f fd):FnOk P w K mg base CX0 3 f fd ["_law_box_here"] YU:=by
 refine F.ok Q6 (λvs H Q E h=>?_) (λcdv A outer s H vs Q E hr h=>?_)
 ·obtain ⟨L,b,rfl,_⟩:=h
  rfl
 ·obtain ⟨L,b,rfl,B,k⟩:=h
  refine ⟨_,(j9 (jm (js (jd K) (jZ (j0 (jg c_law_take (hr.mono ⋯) rfl (j0 (pv 0) (j0 j7 j2))) (j0 (jg c_law_take (hr.mono ⋯) rfl (j0 (pv 0) (j0 j7 j2))) (j0 (jg c_law_take (hr.mono ⋯) rfl (j0 (pv 0) (j0 j7 j2))) (j0 j7 (j0 j7 j2)))))) (jg c_law_take (hr.mono ⋯) rfl (j0 (pv 0) (j0 j7 j2))) (λ_ _=>rfl)))),?_⟩
  left
  refine ⟨L,b,_,rfl,B,⟨⋯,⋯⟩,λv1 H1 p1 q1 B1 X1=>?_⟩
  left
  refine ⟨L,b,_,rfl,B1,⟨⋯,⋯⟩,λv2 H2 p2 q2 B2 X2=>?_⟩
  left
  refine ⟨L,b,_,rfl,B2,⟨⋯,⋯⟩,λv3 H3 p3 q3 B3 X3=>?_⟩
  left
  refine ⟨by show 5<=sizeLine;decide,λl H4 hl hl4 s4=>?_⟩
  left
  refine ⟨L,b,_,rfl,B3.same s4,⟨⋯,⋯⟩,λv5 H5 p5 q5 B5 X5=>?_⟩
  obtain ⟨n,en,n0,n1⟩:=VR p5 q5 (a:=v1) (b:=v2) (c:=v3) ⟨p1,()⟩ ⟨p2,()⟩ ⟨p3,()⟩
  refine ⟨_,_,_,_,rfl,rfl,SqL.of (X5 _ _ hl4 (B3.ne hl)),en,?_⟩
  exact k n H5 n0 n1 B5 ((((X1.trans X2).trans X3).trans (Ext.of_same s4)).trans X5)
noncomputable def scK (p q sg gl ll:Addr):List (Key×V):=[(.inr "reaches",.ref p),(.inr "rows",.ref q),(.inr "single",.ref sg),(.inr "grounds",.ref gl),(.inr "leaps",.ref ll)]
theorem xc {k:Key}{v:V}{r:List (Key×V)}:jP ((k,v)::r) k=some v:=by
 unfold jP
 rw [dX (p:=λkv:Key×V=>decide (kv.1=k)) (a:=(k,v)) (decide_eq_true rfl)]
 rfl
theorem jt {k k':Key}{v:V}{r:List (Key×V)}(h:k'≠k):jP ((k',v)::r) k=jP r k:=by
 unfold jP
 rw [dY (p:=λkv:Key×V=>decide (kv.1=k)) (a:=(k',v)) (λz=>h (of_decide_eq_true z))]
theorem QM (p q sg gl ll:Addr):jP (scK p q sg gl ll) (.inr "reaches")=some (.ref p):=xc
theorem J6 (p q sg gl ll:Addr):jP (scK p q sg gl ll) (.inr "rows")=some (.ref q):=(jt (show (ba (aj "reaches"):Key)≠ba (aj "rows") by decide +kernel)).trans (xc)
theorem zN (p q sg gl ll:Addr):jP (scK p q sg gl ll) (.inr "single")=some (.ref sg):=(jt (show (ba (aj "reaches"):Key)≠ba (aj "single") by decide +kernel)).trans ((jt (show (ba (aj "rows"):Key)≠ba (aj "single") by decide +kernel)).trans (xc))
theorem yb (p q sg gl ll:Addr):jP (scK p q sg gl ll) (.inr "grounds")=some (.ref gl):=(jt (show (ba (aj "reaches"):Key)≠ba (aj "grounds") by decide +kernel)).trans ((jt (show (ba (aj "rows"):Key)≠ba (aj "grounds") by decide +kernel)).trans ((jt (show (ba (aj "single"):Key)≠ba (aj "grounds") by decide +kernel)).trans (xc)))
theorem wo (p q sg gl ll:Addr):jP (scK p q sg gl ll) (.inr "leaps")=some (.ref ll):=(jt (show (ba (aj "reaches"):Key)≠ba (aj "leaps") by decide +kernel)).trans ((jt (show (ba (aj "rows"):Key)≠ba (aj "leaps") by decide +kernel)).trans ((jt (show (ba (aj "single"):Key)≠ba (aj "leaps") by decide +kernel)).trans ((jt (show (ba (aj "grounds"):Key)≠ba (aj "leaps") by decide +kernel)).trans (xc))))
noncomputable def FrM (M:Addr->Prop) (H H':Hp):Prop:=∀c o,H c=some o->H' c=some o\/(M c/\∃ob kvs,o = .dK kvs/\H' c=some (.frz ob (.dK kvs)))
theorem FrM.of_same {M:Addr->Prop}{H H':Hp}(s:jn H H'):FrM M H H':=λc o h=>.inl (s c o h)
theorem FrM.trans {M:Addr->Prop}{H H1 H2:Hp}(a:FrM M H H1) (b:FrM M H1 H2):FrM M H H2:=λc o h=>by
 rcases a c o h with h1 | ⟨m,ob,kvs,e,h1⟩
 ·exact b c o h1
 ·rcases b c _ h1 with h2 | ⟨_,_,_,e2,_⟩
  ·exact .inr ⟨m,ob,kvs,e,h2⟩
  ·cases e2
theorem FrM.at {M:Addr->Prop}{H H':Hp}(f:FrM M H H') {c:Addr}{o:HO}(h:H c=some o) (n:∀kvs,o≠.dK kvs):H' c=some o:=by
 rcases f c o h with h1 | ⟨_,ob,kvs,e,_⟩
 ·exact h1
 ·exact absurd e (n kvs)
theorem FrM.rd {M:Addr->Prop}{H H':Hp}(f:FrM M H H') {c:Addr}{kvs:List (Key×V)}(h:Rd H c (.dK kvs)):Rd H' c (.dK kvs):=by
 rcases h with h | ⟨o,h⟩
 ·rcases f c _ h with h1 | ⟨_,ob,kvs',e,h1⟩
  ·exact .inl h1
  ·cases e
   exact .inr ⟨ob,h1⟩
 ·exact .inr ⟨o,f.at h (by walk_at "w")⟩
noncomputable def jf (ns:List (Int×Int)) (y:Int):Int:=((ns.filter λq=>decide (q.1<=y)).map (·.2)).sum
theorem ut:∀{ns:List (Int×Int)},(ns.map (·.1)).Nodup->∀{z:Int×Int},z∈ns->qQ ns z.1=z.2
 | [],_,z,h=>by cases h
 | q::r,nd,z,h=>by
  rw [aJ] at nd
  obtain ⟨h1,h2⟩:=List.nodup_cons.mp nd
  unfold qQ
  rcases List.mem_cons.mp h with e | e
  ·rw [e,if_pos rfl]
  ·have ne:¬q.1=z.1:=λw=>h1 (by rw [w];exact bG e)
   rw [if_neg ne]
   exact ut h2 e
theorem Vq {ns:List (Int×Int)}{i:Nat}{q:Key×V}(h:(ns.map kvI)[i]? = some q):∃z,ns[i]? = some z/\q=kvI z:=by
 rw [ax] at h
 cases e:ns[i]? with
 | none=>rw [e] at h;cases h
 | some z=>rw [e] at h;cases h;exact ⟨z,rfl,rfl⟩
theorem hX {a acc:Addr}{o:Obj}{ns:List (Int×Int)}{y:Int}{H:Hp}{R:Hp->Prop}(h:H a=some (.frz o (.dK (ns.map kvI)))) (nd:(ns.map (·.1)).Nodup) (hl:ns.length<=100) (hacc:H acc=none)
  (fin:∀H',H' acc=some (.lst (((ns.filter λq=>decide (q.1<=y)).map (·.2)).map V.int))->jn H H'->R H') :
  ∃W:Nat->Nat->L2.St->Hp->Prop,(∃m,W 0 m [none,some (.ref a),some (.int y)] (upd H acc (.lst [])))/\∀i m σ' H',W i m σ' H' ->
   ((Itd a o (ns.map kvI)).stop i H'/\R H')\/((Itd a o (ns.map kvI)).go i H'/\∃NX:L2.St->Hp->Prop,(∀σ2 H2,NX σ2 H2->∃m',m'<m/\W (i+1) m' σ2 H2) /\
    ∀x H2,(Itd a o (ns.map kvI)).yld i H' x H2->vE 0 x σ' H2 λσ3 H3=>JG (tOp (rI0 λi j=>V.bl (decide (i<=j))) (XC 0) (XC 2)) σ3 H3 λok H4=>if ok=true then Uu (XC 1) (XC 0) σ3 H4 λv H5=>∃ys,H5 acc=some (.lst ys)/\ys.length<sizeLine/\NX σ3 (upd H5 acc (.lst (ys++[v]))) else NX σ3 H4):=by
 refine Zr (a:=a) (acc:=acc) (o:=o) (kvs:=ns.map kvI) (λi σ H'=>∃x:Option V,σ=[x,some (.ref a),some (.int y)]/\H' acc=some (.lst ((((ns.take i).filter λq=>decide (q.1<=y)).map (·.2)).map V.int))/\Ext acc H H') ⟨none,rfl,j5,Ext.put⟩ ?_ ?_ ?_
 ·rintro i σ H' hi ⟨x,rfl,h3,e3⟩
  exact e3 _ _ h (j1 h hacc)
 ·rintro i q σ H' hq ⟨x,rfl,h3,e3⟩
  obtain ⟨z,hz,rfl⟩:=Vq hq
  have hm:=aw hz
  have hi:i<ns.length:=(List.getElem?_eq_some_iff.mp hz).1
  have hl2:((((ns.take i).filter λq=>decide (q.1<=y)).map (·.2)).map V.int).length<=100:=by
   rw [ah,ah]
   exact aG (bX _ _) (by rw [aM];omega)
  have ha:=e3 _ _ h (j1 h hacc)
  show vE 0 (V.int z.1) _ _ _
  left
  refine qO (λle=>?_) (λle=>?_)
  ·refine ⟨_,rfl,_,rfl,a,V.int z.2,rfl,?_,_,h3,bO hl2 ⋯,_,rfl,?_,e3.trans Ext.put⟩
   ·have:=yO ns z.1 (bG hm)
    rw [ut nd hm] at this
    rw [<- this]
    exact .inl ⟨_,.inl z.1,.inr ⟨o,ha⟩,rfl,rfl⟩
   ·rw [j5,c3,hz,dW,ck,fA (by rw [decide_eq_true le]),aA,aA]
    rfl
  ·refine ⟨_,rfl,?_,e3⟩
   rw [c3,hz,dW,ck,ft (by rw [decide_eq_false le];exact ar),pS,bp]
   exact h3
 ·rintro σ H' ⟨x,rfl,h3,e3⟩
  rw [ah,aZ] at h3
  exact fin H' h3 λc u hc=>e3 c u hc (j1 hc hacc)
noncomputable def Xw:Sp:=λvs H Q _=>∃(M:Addr->Prop) (sd p q sg gl ll a:Addr) (lds:List Addr) (l y:Int) (ns:List (Int×Int)),vs=[.ref sd,.int l,.int y]/\H sd=some (.dK (scK p q sg gl ll))/\H ll=some (.lst (lds.map V.ref))/\0<=l/\lds[l.toNat]? = some a/\Rd H a (.dK (ns.map kvI))/\M a/\¬M sd/\ns.length<=100/\(ns.map (·.1)).Nodup/\(∀q∈ns,0<=q.2/\q.2<=9) /\
 ∀H',FrM M H H'->Q (.int (y+jf ns y)) H'
theorem uM:FnScope ["_law_scene_here","_law_lane","_law_year_here","_law_leaps"] ["_law_scene_here","_law_lane","_law_year_here"] (j8 yi):=by walk_at "s"
theorem VY {f:Addr}{fd:FuncData}(nb:Nb2 mg) (F:Fun K "_law_ride" "_law_ride" yi f fd):FnOk P w K mg base CX0 1 f fd ["_law_scene_here","_law_lane","_law_year_here"] Xw:=by
 refine F.ok uM (λvs H Q E h=>?_) (λcdv A outer s H vs Q E hr h=>?_)
 ·obtain ⟨M,sd,p,q,sg,gl,ll,a,lds,l,y,ns,rfl,_⟩:=h
  rfl
 ·obtain ⟨M,sd,p,q,sg,gl,ll,a,lds,l,y,ns,rfl,hsd,hll,l0,ha,hra,hM,nsd,h100,nd,h9,k⟩:=h
  refine ⟨_,(j4 (yy (i:=3) uM.nd rfl (fW rfl) (js (jd K) (jI (jQ hr) (pv 0) jB (λ_ _=>rfl)) (pv 1) (λ_ _=>rfl)))
   (j9 (jm (jr jN (pv 2) (je (wO K rfl) rfl nb.b_sum sY (j0 (jS (osc:=(j8 yi)) (ON:=["_law_scene_here","_law_lane","_law_year_here","_law_leaps"]) (N:=["_law_when","_law_leaps","_law_year_here"]) (own:=1) (caps:=[3,2]) ⟨rfl,∅,∅,∅,rfl,∅⟩ rfl rfl rfl (w9 (pv 3)) (λ_ _ _ _ _=>(jb (i:=0) (show bc (["_law_when","_law_leaps","_law_year_here"]:List Str) by decide +kernel) rfl (aP rfl))) (λ_ _ _ _ _=>(zO (jD qk (pv 0) (pv 2) (jK _)))) (λ_ _ _ _ _=>(jI (jQ hr) (pv 1) (pv 0) (λ_ _=>rfl)))) j2)))))),?_⟩
  left
  refine ⟨sd,.ref ll,rfl,by rw [<- wo p q sg gl ll];exact xo.k (k:=.inr "leaps") hsd,?_⟩
  left
  refine ⟨_,_,_,_,rfl,rfl,SqL.of hll,x3 l0 (v:=V.ref a) (by rw [ax,ha];rfl),?_⟩
  left
  have fin:∀(H1:Hp),FrM M H H1->∀acc H2,H2 acc=some (.lst (((ns.filter λq=>decide (q.1<=y)).map (·.2)).map V.int))->jn H1 H2->VX [some (.ref sd),some (.int l),some (.int y),some (.ref a)] H2 λxs H3=>(∃(p:Addr) (ms:List Int),V.ref acc::xs=[V.ref p]/\SqL K H3 p (ms.map V.int)/\ms.length<=1000/\(∀n∈ms,0<=n/\n<=2 ^ 20)/\rI0 (λi j=>V.int (i+j)) (V.int y) (V.int ms.sum) H3 Q):=λH1 f1 acc H2 h2 s2=>by
   refine ⟨acc,_,rfl,SqL.of h2,?_,λn hn=>?_,?_⟩
   ·rw [ah]
    exact aG (bX _ _) ()
   ·obtain ⟨z,hz,rfl⟩:=List.mem_map.mp hn
    have:=h9 z (List.mem_filter.mp hz).1
    exact ⟨this.1,oM this.2 ⋯⟩
   ·exact ⟨_,_,rfl,rfl,k H2 (f1.trans (FrM.of_same s2))⟩
  rcases hra with h | ⟨o,h⟩
  ·refine ⟨a,_,rfl,.inl ⟨h,λo acc hacc=>?_⟩⟩
   have f1:FrM M H (upd H a (.frz o (.dK (ns.map kvI)))):=λc u hc=>by
    by_cases e:c=a
    ·subst e
     rw [h] at hc
     cases hc
     exact .inr ⟨hM,o,_,rfl,j5⟩
    ·exact .inl (by rw [j6 e];exact hc)
   exact hX (a:=a) (o:=o) j5 nd h100 hacc λH2 h2 s2=>fin _ f1 acc H2 h2 s2
  ·refine ⟨a,_,rfl,.inr ⟨o,h,λacc hacc=>?_⟩⟩
   exact hX (a:=a) (o:=o) h nd h100 hacc λH2 h2 s2=>fin _ (FrM.of_same (jn.refl H)) acc H2 h2 s2
theorem Zh (y:Int):jf [] y=0:=rfl
theorem jV (q:Int×Int) (r:List (Int×Int)) (y:Int):jf (q::r) y=(if q.1<=y then q.2 else 0)+jf r y:=by
 unfold jf
 rw [List.filter_cons]
 by_cases h:q.1<=y
 ·rw [decide_eq_true h,if_pos rfl,if_pos h,aJ,n6]
 ·rw [decide_eq_false h,if_neg ar,if_neg h,dU]
theorem qR {ms ns:List (Int×Int)}(p:ms.Perm ns) (y:Int):jf ms y=jf ns y:=by
 induction p with
 | nil=>rfl
 | cons q _ ih=>rw [jV,jV,ih]
 | swap a b r=>rw [jV,jV,jV,jV];omega
 | trans _ _ a b=>rw [a,b]
theorem Ji {ns:List (Int×Int)}(h:∀q∈ns,0<=q.2) (y:Int):0<=jf ns y:=by
 induction ns with
 | nil=>exact mP _
 | cons q r ih =>
  rw [jV]
  have:=h q (aH ..)
  have:=ih λz hz=>h z (aD _ hz)
  by_cases e:q.1<=y
  ·rw [if_pos e];omega
  ·rw [if_neg e];omega
theorem Xf {ns:List (Int×Int)}{y:Int}(h:∀q∈ns,y<q.1):jf ns y=0:=by
 induction ns with
 | nil=>rfl
 | cons q r ih =>
  have a:=h q (aH ..)
  rw [jV,if_neg (),ih λz hz=>h z (aD _ hz)]
  rfl
theorem wT:∀(ms:List (Int×Int)) (st ad goal:Int),(∀q∈ms,st<=q.1)->(ms.map (·.1)).Pairwise (· <= ·)->st<=ja st ad ms goal
 | [],st,ad,goal,_,_=>by unfold ja;split <;> omega
 | q::r,st,ad,goal,h,p=>by
  unfold ja
  have a:=h q (aH ..)
  rw [aJ,fi] at p
  by_cases e:goal-ad<q.1
  ·rw [if_pos e];split <;> omega
  ·rw [if_neg e]
   have:=wT r q.1 (ad+q.2) goal (λz hz=>p.1 _ (bG hz)) p.2
   omega
theorem kX:∀(ms:List (Int×Int)) (st ad goal y:Int),(∀q∈ms,st<=q.1/\0<=q.2)->(ms.map (·.1)).Pairwise (· < ·)->st<=y->(goal<=y+ad+jf ms y↔ja st ad ms goal<=y)
 | [],st,ad,goal,y,_,_,hy=>by rw [Zh];unfold ja;split <;> omega
 | q::r,st,ad,goal,y,h,p,hy=>by
  have a:=h q (aH ..)
  have hr:∀z∈r,0<=z.2:=λz hz=>(h z (aD _ hz)).2
  rw [aJ,fi] at p
  have gt:∀z∈r,q.1<z.1:=λz hz=>p.1 _ (bG hz)
  have sn:=Ji hr y
  rw [jV]
  unfold ja
  by_cases hq:q.1<=y
  ·rw [if_pos hq]
   by_cases e:goal-ad<q.1
   ·rw [if_pos e];split <;> omega
   ·rw [if_neg e]
    have ih:=kX r q.1 (ad+q.2) goal y (λz hz=>⟨oN (gt z hz),hr z hz⟩) p.2 hq
    constructor
    ·intro z;exact ih.mp ()
    ·intro z;have:=ih.mpr z;omega
  ·rw [if_neg hq,Xf λz hz=>by have:=gt z hz;omega]
   by_cases e:goal-ad<q.1
   ·rw [if_pos e];split <;> omega
   ·rw [if_neg e]
    have g:=wT r q.1 (ad+q.2) goal (λz hz=>oN (gt z hz)) (p.2.imp λh=>oN h)
    omega
theorem xA:∀{l:List Int},l.Pairwise (· <= ·)->l.Nodup->l.Pairwise (· < ·)
 | [],_,_=>.nil
 | x::r,p,n=>by
  rw [fi] at p ⊢
  obtain ⟨n1,n2⟩:=List.nodup_cons.mp n
  refine ⟨λy hy=>?_,xA p.2 n2⟩
  have:=p.1 y hy
  have:x≠y:=λe=>n1 (e ▸ hy)
  omega
noncomputable def vO (CY:Addr):Sp:=λvs H Q E=>∃y:Int,vs=[.int y]/\(0<=y->y<=10 ^ 40->Q .non H)/\(y<0\/10 ^ 40<y->E (.ref CY) none H)
theorem kA:FnScope ["year"] ["year"] (j8 zF):=by walk_at "s"
theorem wt {f CY:Addr}{fd:FuncData}{u0:Tok}(g_LAST_ASKED:mg "LAST_ASKED" = some (.int 10000000000000000000000000000000000000000 u0)) (e_BadYear:mg "BadYear" = some (.ref CY)) (x_BadYear:cN K CY [.type "ValueError",.type "Exception",.type "BaseException",.type "object"] "ValueError.__new__" = true) (F:Fun K "check_asked" "check_asked" zF f fd):FnOk P w K mg base (CX1 P w) 1 f fd ["year"] (vO CY):=by
 refine Fun.okX F kA (λvs H Q E h=>?_) (λcdv A outer s H vs Q E hr h=>?_)
 ·obtain ⟨y,rfl,_⟩:=h
  rfl
 ·obtain ⟨y,rfl,k,kx⟩:=h
  refine ⟨_,(j9 (qc (xl (xz qk qk j7 (pv 0) (xj (v:=V.int 10000000000000000000000000000000000000000) rfl g_LAST_ASKED ⟨_,rfl⟩))) (j9 (xh br x_BadYear e_BadYear rfl xJ rfl (j0 jB j2))) jw)),?_⟩
  left
  refine qO (λh0=>?_) (λh0=>?_)
  ·left
   refine zn (λh1=>?_) (λh1=>?_)
   ·left
    exact ⟨by show 1<=sizeLine;decide,kx (.inr ())⟩
   ·left
    exact k h0 h1
  ·left
   refine yH ?_
   left
   exact ⟨by show 1<=sizeLine;decide,kx (.inl ())⟩
noncomputable def wZ:Sp:=λvs H Q _=>∃(p:Addr) (out:List V) (ms:List (Int×Int)) (y:Int),vs=[.ref p,.int y]/\H p=some (.lst out)/\kF H out ms/\ms.length<=100/\(∀q∈ms,0<=q.2/\q.2<=9)/\∀H',jn H H'->Q (.int (y+jf ms y)) H'
theorem QL:FnScope ["surges","year"] ["surges","year"] (j8 yL):=by walk_at "s"
theorem Xv {f:Addr}{fd:FuncData}(nb:Nb2 mg) (F:Fun K "ride_by" "ride_by" yL f fd):FnOk P w K mg base CX0 1 f fd ["surges","year"] wZ:=by
 refine F.ok QL (λvs H Q E h=>?_) (λcdv A outer s H vs Q E hr h=>?_)
 ·obtain ⟨p,out,ms,y,rfl,_⟩:=h
  rfl
 ·obtain ⟨p,out,ms,y,rfl,hp,hq,h100,h9,k⟩:=h
  have hlen:out.length=ms.length:=aX hq
  refine ⟨_,(j9 (jm (jr jN (pv 1) (je (wO K rfl) rfl nb.b_sum sY (j0 (jS (osc:=(j8 yL)) (ON:=["surges","year"]) (N:=["when","many","year"]) (own:=2) (caps:=[1]) ⟨rfl,∅,∅,∅,rfl,∅⟩ rfl rfl rfl (jT K (pv 0)) (λ_ _ _ _ _=>(qx (n:=2) K rfl (jo (jb (i:=0) (show bc (["when","many","year"]:List Str) by decide +kernel) rfl (aP rfl)) (jo (jb (i:=1) (show bc (["when","many","year"]:List Str) by decide +kernel) rfl (aP rfl)) qw)))) (λ_ _ _ _ _=>(zO (jD qk (pv 0) (pv 2) (jK _)))) (λ_ _ _ _ _=>(pv 1))) j2))))),?_⟩
  left
  refine ⟨⟨_,SqL.of hp⟩,λacc hacc=>?_⟩
  refine qp (K:=K) (a:=p) (xs:=out) (acc:=acc) (λi σ H2=>∃x x2:Option V,σ=[x,x2,some (.int y)]/\H2 acc=some (.lst ((((ms.take i).filter λq=>decide (q.1<=y)).map (·.2)).map V.int))/\Ext acc H H2) ?_ ?_ ?_ ?_
  ·exact ⟨none,none,rfl,j5,Ext.put⟩
  ·rintro i σ H2 hi ⟨x,x2,rfl,h2,e2⟩
   exact SqL.of (e2 _ _ hp (j1 hp hacc))
  ·rintro i v σ H2 hv ⟨x,x2,rfl,h2,e2⟩
   obtain ⟨m,hm,b,rfl,hb⟩:=Paired.get hq hv
   have hi:=(List.getElem?_eq_some_iff.mp hm).1
   have hl2:((((ms.take i).filter λq=>decide (q.1<=y)).map (·.2)).map V.int).length<=100:=by
    rw [ah,ah]
    exact aG (bX _ _) (by rw [aM];omega)
   left
   refine ⟨b,_,rfl,SqT.of (e2 _ _ hb (j1 hb hacc)),rfl,?_⟩
   refine ⟨_,_,rfl,_,_,rfl,rfl,?_⟩
   left
   refine qO (λle=>?_) (λle=>?_)
   ·left
    refine ⟨_,h2,bO hl2 ⋯,_,_,rfl,?_,e2.trans Ext.put⟩
    rw [j5,c3,hm,dW,ck,fA (by rw [decide_eq_true le]),aA,aA]
    rfl
   ·refine ⟨_,_,rfl,?_,e2⟩
    rw [c3,hm,dW,ck,ft (by rw [decide_eq_false le];exact ar),pS,bp]
    exact h2
  ·rintro σ H2 ⟨x,x2,rfl,h2,e2⟩
   rw [hlen,aZ] at h2
   left
   refine ⟨acc,_,rfl,SqL.of h2,?_,λn hn=>?_,?_⟩
   ·rw [ah]
    exact aG (bX _ _) ()
   ·obtain ⟨z,hz,rfl⟩:=List.mem_map.mp hn
    have:=h9 z (List.mem_filter.mp hz).1
    exact ⟨this.1,oM this.2 ⋯⟩
   ·exact ⟨_,_,rfl,rfl,k H2 λc o hc=>e2 c o hc (j1 hc hacc)⟩
noncomputable def Yb (g:IceG) (l:Int) (ns:List (Int×Int)):Prop:=0<=l/\l<(g.slopes.length:Int)/\(∃a,g.lds[l.toNat]? = some (a,ns.map kvI))/\(ns.map (·.1)).Nodup/\ns.length<64/\∀q∈ns,0<=q.2/\q.2<=9
noncomputable def JF (C CN CY:Addr):Sp:=λvs H Q E=>∃(p:Addr) (g:IceG) (l y:Int),vs=[.ref p,.int l,.int y]/\IceAt C H p g/\g.lds.length=g.slopes.length/\(l<0\/(g.slopes.length:Int)<=l->E (.ref CN) none H) /\
 (0<=l->l<(g.slopes.length:Int)->∃ns,Yb g l ns/\(∀H',jn H H'->y<0\/10 ^ 40<y->E (.ref CY) none H')/\∀H',jn H H'->0<=y->y<=10 ^ 40->Q (.int (y+jf ns y)) H')
theorem hZ:FnScope ["ice","lane","year","surges"] ["ice","lane","year"] (j8 wA):=by walk_at "s"
theorem Zu {f C CN CY:Addr}{fd:FuncData}(cl_Ice:Cls K C) (c_Ice__surges:CalMX P w K mg base 2 C "surges" ["self","lane"] (yN C CN)) (c_check_asked:CalX P w K mg base 1 "check_asked" ["year"] (vO CY)) (c_ride_by:Cal P w K mg base 1 "ride_by" ["surges","year"] wZ) (F:Fun K "ridden" "ridden" wA f fd):FnOk P w K mg base (CX1 P w) 3 f fd ["ice","lane","year"] (JF C CN CY):=by
 refine Fun.okX F hZ (λvs H Q E h=>?_) (λcdv A outer s H vs Q E hr h=>?_)
 ·obtain ⟨p,g,l,y,rfl,_⟩:=h
  rfl
 ·obtain ⟨p,g,l,y,rfl,I,hll,kx,k⟩:=h
  refine ⟨_,(j4 (jx 3 hZ.nd (zR (pv 0) cl_Ice c_Ice__surges (hr.mono ⋯) qE (j0 (pv 1) j2)))
   (j4 (jY (xW c_check_asked (hr.mono ⋯) qE rfl (j0 (pv 2) j2)))
   (j9 (jm (jg c_ride_by (hr.mono ⋯) rfl (j0 (pv 3) (j0 (pv 2) j2))))))),?_⟩
  left
  refine ⟨p,g.dx,_,rfl,I.ob,qJ ∅,?_⟩
  left
  refine ⟨p,g,l,rfl,I,hll,λhb=>kx hb,λl0 l1=>?_⟩
  obtain ⟨ns,⟨_,_,⟨a,ha⟩,nd,h64,h9⟩,ky,k⟩:=k l0 l1
  refine ⟨a,ns,ha,nd,h64,λo H1 out ms ho ho1 hq s1 hp hs=>?_⟩
  left
  refine ⟨λy0 y1=>?_,λhb=>ky H1 s1 hb⟩
  left
  refine ⟨o,out,ms,y,rfl,ho1,hq,(by rw [hp.length_eq];omega),λq hq'=>h9 q (hp.mem_iff.mp hq'),λH2 s2=>?_⟩
  rw [qR hp]
  exact k H2 (s1.trans s2) y0 y1
noncomputable def kvA (z:Int×Addr):Key×V:=(.inl z.1,.ref z.2)
noncomputable def xF {α:Type}(l:List (Int×α)) (y:Int) (a:α):List (Int×α):=if (l.any λz=>decide (z.1=y))=true then l.map (λz=>if z.1=y then (z.1,a) else z) else l++[(y,a)]
theorem kG {α:Type}(f:α->V) (l:List (Int×α)) (y:Int) (a:α):qt (l.map λz=>((.inl z.1,f z.2):Key×V)) (.inl y) (f a)=(xF l y a).map λz=>((.inl z.1,f z.2):Key×V):=by
 have e:∀z:Int,decide ((dP z:Key)=dP y)=decide (z=y):=λz=>decide_eq_decide.mpr ⟨λh=>dM h,λh=>by rw [h]⟩
 have e1:((l.map λz=>((.inl z.1,f z.2):Key×V)).any λkv=>decide (kv.1=(dP y:Key)))=l.any λz=>decide (z.1=y):=by
  rw [List.any_map]
  congr 1
  funext z
  exact e z.1
 unfold qt xF
 rw [e1]
 by_cases h:(l.any λz=>decide (z.1=y))=true
 ·rw [if_pos h,if_pos h,bP,bP]
  refine dC λz _=>?_
  show (if (dP z.1:Key)=dP y then _ else _)=_
  by_cases hz:z.1=y
  ·rw [if_pos (by rw [hz])]
   show _=(λz:Int×α=>((.inl z.1,f z.2):Key×V)) (if z.1=y then (z.1,a) else z)
   rw [if_pos hz]
  ·rw [if_neg (λw=>hz (dM w))]
   show _=(λz:Int×α=>((.inl z.1,f z.2):Key×V)) (if z.1=y then (z.1,a) else z)
   rw [if_neg hz]
 ·rw [if_neg h,if_neg h,aA]
  rfl
theorem kE {α:Type}{l:List (Int×α)}{y:Int}{a:α}{z:Int×α}(h:z∈xF l y a):z∈l\/z=(y,a):=by
 unfold xF at h
 by_cases c:(l.any λz=>decide (z.1=y))=true
 ·rw [if_pos c] at h
  obtain ⟨u,hu,e⟩:=List.mem_map.mp h
  by_cases q:u.1=y
  ·rw [if_pos q,q] at e
   exact .inr e.symm
  ·rw [if_neg q] at e
   exact .inl (e ▸ hu)
 ·rw [if_neg c] at h
  rcases List.mem_append.mp h with q | q
  ·exact .inl q
  ·exact .inr (by simpa using q)
theorem vQ {α:Type}(l:List (Int×α)) (y:Int) (a:α):(xF l y a).length<=l.length+1:=by
 unfold xF
 split
 ·rw [ah];omega
 ·rw [aq];exact ao _
theorem ke {α:Type}{l:List (Int×α)}{y:Int}{a:α}(h:(l.map (·.1)).Nodup):((xF l y a).map (·.1)).Nodup:=by
 unfold xF
 by_cases c:(l.any λz=>decide (z.1=y))=true
 ·rw [if_pos c,bP]
  have:(l.map ((λx=>x.1) ∘ λz=>if z.1=y then (z.1,a) else z))=l.map (·.1):=dC λz _=>by
   show (if z.1=y then (z.1,a) else z).1=z.1
   split <;> rfl
  rw [this]
  exact h
 ·rw [if_neg c,aA]
  refine uY h λz=>c ?_
  obtain ⟨u,hu,e⟩:=List.mem_map.mp z
  exact List.any_eq_true.mpr ⟨u,hu,decide_eq_true e⟩
structure ScN where
 p:Addr
 q:Addr
 sg:Addr
 gl:Addr
 ll:Addr
 xs:List V
 ys:List V
 zs:List V
 rs:List Rch
 ts:List T3
 ws:List (List Int)
 sk:List (Int×Addr)
 lds:List (Addr×List (Int×Int))
structure ScAt (H:Hp) (sd:Addr) (c:ScN):Prop where
 sd:H sd=some (.dK (scK c.p c.q c.sg c.gl c.ll))
 p:H c.p=some (.lst c.xs)
 rv:jU H c.xs c.rs
 q:H c.q=some (.lst c.ys)
 r3:jG H c.ys c.ts
 gl:H c.gl=some (.lst c.zs)
 gi:yj H c.zs (c.ws.map (jc c.rs))
 ll:H c.ll=some (.lst (c.lds.map λx=>V.ref x.1))
 sg:Rd H c.sg (.dK (c.sk.map kvA))
 sk:∀z∈c.sk,∃t,H z.2=some (yd t)/\good t=true
 ld:∀x∈c.lds,Rd H x.1 (.dK (x.2.map kvI))
structure ScOk (b:Addr) (c:ScN):Prop where
 gr:Grown c.rs
 l1:1<=c.rs.length
 l8:c.rs.length<=8
 t1:1<=c.ts.length
 t2:c.ts.length<=12
 tg:c.ts.all good=true
 ro:jX c.rs c.ws
 ldl:c.lds.length=c.ws.length
 nd:(c.lds.map (·.1)).Nodup
 ns:∀x∈c.lds,x.1≠c.sg
 pb:c.p≠b
 qb:c.q≠b
 gb:c.gl≠b
 lb:c.ll≠b
 zb:V.ref b∉c.zs
 k1:(c.sk.map (·.1)).Nodup
 k2:∀z∈c.sk,0<=z.1/\z.1<=99
 k3:c.sk.length<=10
 m1:∀x∈c.lds,(x.2.map (·.1)).Nodup
 m2:∀x∈c.lds,∀z∈x.2,0<=z.1/\z.1<=99/\1<=z.2/\z.2<=9
 m3:∀x∈c.lds,x.2.length<=10
noncomputable def Fr3 (N M:Addr->Prop) (H H':Hp):Prop:=∀c o,H c=some o->¬N c->H' c=some o\/(M c/\∃ob kvs,o = .dK kvs/\H' c=some (.frz ob (.dK kvs)))
theorem Fr3.at {N M:Addr->Prop}{H H':Hp}(f:Fr3 N M H H') {c:Addr}{o:HO}(h:H c=some o) (n:¬N c) (d:∀kvs,o≠.dK kvs):H' c=some o:=by
 rcases f c o h n with h1 | ⟨_,ob,kvs,e,_⟩
 ·exact h1
 ·exact absurd e (d kvs)
theorem Fr3.rd {N M:Addr->Prop}{H H':Hp}(f:Fr3 N M H H') {c:Addr}{kvs:List (Key×V)}(n:¬N c) (h:Rd H c (.dK kvs)):Rd H' c (.dK kvs):=by
 rcases h with h | ⟨o,h⟩
 ·rcases f c _ h n with h1 | ⟨_,ob,kvs',e,h1⟩
  ·exact .inl h1
  ·cases e
   exact .inr ⟨ob,h1⟩
 ·exact .inr ⟨o,f.at h n (by walk_at "w")⟩
theorem pmM {α β:Type}{F G:α->β->Prop}:∀{l₁:List α}{l₂:List β},cO F l₁ l₂->(∀v∈l₁,∀w,F v w->G v w)->cO G l₁ l₂
 | _,_,.nil,_=>.nil
 | _,_,.cons q r,h=>.cons (h _ (aH ..) _ q) (pmM r λv hv=>h v (aD _ hv))
theorem ScAt.keep {N M:Addr->Prop}{H H':Hp}{sd:Addr}{c:ScN}(S:ScAt H sd c) (f:Fr3 N M H H') (nT:∀a xs,H a=some (.tup xs)->¬N a) (nsd:¬N sd) (msd:¬M sd) (np:¬N c.p) (nq:¬N c.q) (ng:¬N c.gl) (nl:¬N c.ll) (nz:∀a,V.ref a∈c.zs->¬N a) (ns:¬N c.sg) (nd:∀x∈c.lds,¬N x.1):ScAt H' sd c:=by
 have t:∀a xs,H a=some (.tup xs)->H' a=some (.tup xs):=λa xs h=>f.at h (nT a xs h) (by walk_at "w")
 refine ⟨?_,f.at S.p np (by walk_at "w"),S.rv.keep t,f.at S.q nq (by walk_at "w"),S.r3.imp λ_ _ h=>t _ _ h,f.at S.gl ng (by walk_at "w"),pmM S.gi λv hv w ⟨a,ea,q⟩=>⟨a,ea,f.at q (nz a (ea ▸ hv)) (by walk_at "w")⟩,f.at S.ll nl (by walk_at "w"),f.rd ns S.sg,λz hz=>?_,λx hx=>f.rd (nd x hx) (S.ld x hx)⟩
 ·rcases f _ _ S.sd nsd with z | ⟨z,_⟩
  ·exact z
  ·exact absurd z msd
 ·obtain ⟨u,hu,g⟩:=S.sk z hz
  exact ⟨u,t _ _ hu,g⟩
theorem ScAt.same {H H':Hp}{sd:Addr}{c:ScN}(S:ScAt H sd c) (s:jn H H'):ScAt H' sd c :=
 S.keep (N:=λ_=>False) (M:=λ_=>False) (λc o h _=>.inl (s c o h)) (λ_ _ _ z=>z) id id id id id id (λ_ _=>id) id (λ_ _=>id)
theorem ScAt.ext {L b:Addr}{H H':Hp}{sd:Addr}{c:ScN}(S:ScAt H sd c) (O:ScOk b c) (B:qi L H b) (e:Ext b H H'):ScAt H' sd c:=by
 obtain ⟨_,_,_,_,_,hb,_⟩:=B
 have nr:∀{a:Addr} {kvs:List (Key×V)},Rd H a (.dK kvs)->¬a=b:=λh z=>by
  rcases h with h | ⟨o,h⟩
  ·exact absurd z (ji h hb (by walk_at "z"))
  ·exact absurd z (ji h hb (by walk_at "z"))
 exact S.keep (N:=λa=>a=b) (M:=λ_=>False) (λc o h n=>.inl (e c o h n)) (λa xs h z=>absurd z (ji h hb (by walk_at "z"))) (ji S.sd hb (by walk_at "z")) id O.pb O.qb O.gb O.lb (λa h z=>O.zb (z ▸ h)) (nr S.sg) λx hx=>nr (S.ld x hx)
noncomputable def ScN.D (c:ScN) (a:Addr):Prop:=a=c.sg\/∃x∈c.lds,x.1=a
theorem Wx {p q sg gl ll:Addr}{α:Type}{f:α->V}{l:List (Int×α)}:scK p q sg gl ll≠l.map λz=>((.inl z.1,f z.2):Key×V):=λz=>by
 cases l with
 | nil=>cases z
 | cons u r =>
  have:=congrArg (λl=>l.head?.map (·.1)) z
  cases this
theorem XG {H:Hp}{sd a p q sg gl ll:Addr}{α:Type}{f:α->V}{l:List (Int×α)}(h:H sd=some (.dK (scK p q sg gl ll))) (r:Rd H a (.dK (l.map λz=>((.inl z.1,f z.2):Key×V)))):a≠sd:=λz=>by
 subst z
 rcases r with r | ⟨o,r⟩
 ·rw [r] at h
  have e:l.map (λz=>((.inl z.1,f z.2):Key×V))=scK p q sg gl ll:=by injection h with h;injection h
  exact Wx e.symm
 ·rw [r] at h
  cases h
theorem ScAt.nD {H:Hp}{sd:Addr}{c:ScN}(S:ScAt H sd c):¬c.D sd:=λz=>by
 rcases z with z | ⟨x,hx,e⟩
 ·exact XG (f:=V.ref) S.sd S.sg z.symm
 ·exact XG (f:=V.int) S.sd (S.ld x hx) e
structure ScB (L b:Addr) (H H2:Hp) (sd:Addr) (c:ScN):Prop where
 S:ScAt H2 sd c
 O:ScOk b c
 r1:H2 c.sg=some (.dK (c.sk.map kvA))
 r2:∀x∈c.lds,H2 x.1=some (.dK (x.2.map kvI))
 B:qi L H2 b
 X:Ext b H H2
 f1:H c.sg=none
 f2:∀x∈c.lds,H x.1=none
theorem ScB.take {L b:Addr}{H H2 H3:Hp}{sd:Addr}{c:ScN}(S:ScB L b H H2 sd c) (B:qi L H3 b) (X:Ext b H2 H3):ScB L b H H3 sd c:=by
 have hb:∃xs,H2 b=some (.lst xs):=by
  obtain ⟨_,_,_,_,_,hb,_⟩:=S.B
  exact ⟨_,hb⟩
 obtain ⟨_,hb⟩:=hb
 exact ⟨S.S.ext S.O S.B X,S.O,X _ _ S.r1 (ji S.r1 hb (by walk_at "z")),λx hx=>X _ _ (S.r2 x hx) (ji (S.r2 x hx) hb (by walk_at "z")),B,S.X.trans X,S.f1,S.f2⟩
theorem ScB.same {L b:Addr}{H H2 H3:Hp}{sd:Addr}{c:ScN}(S:ScB L b H H2 sd c) (s:jn H2 H3):ScB L b H H3 sd c:=S.take (S.B.same s) (Ext.of_same s)
theorem zW {L b:Addr}{Ha Hb:Hp}(B:qi L Ha b) (e:Ext b Ha Hb):jk Ha Hb:=by
 obtain ⟨ns,a,r,c,d,h1,_⟩:=B
 exact jk.lst e h1
theorem ScB.single {L b:Addr}{H H2:Hp}{sd t:Addr}{c:ScN}{y:Int}{r:T3}(S:ScB L b H H2 sd c) (y0:0<=y) (y1:y<=99) (ht:H2 t=some (yd r)) (hg:good r=true) (hl:c.sk.length+1<=10) :
  ScB L b H (upd H2 c.sg (.dK (qt (c.sk.map kvA) (.inl y) (.ref t)))) sd { c with sk:=xF c.sk y t }:=by
 have e:qt (c.sk.map kvA) (.inl y) (.ref t)=(xF c.sk y t).map kvA:=kG V.ref c.sk y t
 rw [e]
 have nT:∀{a:Addr} {o:HO},H2 a=some o->(∀kvs,o≠.dK kvs)->(upd H2 c.sg (.dK ((xF c.sk y t).map kvA))) a=some o:=λh n=>by rw [j6 (ji h S.r1 (n _))];exact h
 have sdn:sd≠c.sg:=(XG (f:=V.ref) S.S.sd S.S.sg).symm
 have hb:∃xs,H2 b=some (.lst xs):=by
  obtain ⟨_,_,_,_,_,hb,_⟩:=S.B
  exact ⟨_,hb⟩
 obtain ⟨_,hb⟩:=hb
 have hL:∃xs,H2 L=some (.lst xs):=by
  obtain ⟨_,_,_,_,_,_,_,hL,_⟩:=S.B
  exact ⟨_,hL⟩
 obtain ⟨_,hL⟩:=hL
 refine ⟨⟨by rw [j6 sdn];exact S.S.sd,nT S.S.p (by walk_at "w"),S.S.rv.keep λ_ _ h=>nT h (by walk_at "w"),nT S.S.q (by walk_at "w"),S.S.r3.imp λ_ _ h=>nT h (by walk_at "w"),nT S.S.gl (by walk_at "w"),pmM S.S.gi λv hv w ⟨a,ea,q⟩=>⟨a,ea,nT q (by walk_at "w")⟩,nT S.S.ll (by walk_at "w"),.inl j5,λz hz=>?_,λx hx=>.inl (by rw [j6 (S.O.ns x hx)];exact S.r2 x hx)⟩,?_,j5,λx hx=>by rw [j6 (S.O.ns x hx)];exact S.r2 x hx,S.B.put (ji S.r1 hb (by walk_at "z")) (ji S.r1 hL (by walk_at "z")),λd o hd n=>?_,S.f1,S.f2⟩
 ·rcases kE hz with z | z
  ·obtain ⟨u,hu,g⟩:=S.S.sk _ z
   exact ⟨u,nT hu (by walk_at "w"),g⟩
  ·subst z
   exact ⟨r,nT ht (by walk_at "w"),hg⟩
 ·have O:=S.O
  exact ⟨O.gr,O.l1,O.l8,O.t1,O.t2,O.tg,O.ro,O.ldl,O.nd,O.ns,O.pb,O.qb,O.gb,O.lb,O.zb,ke O.k1,λz hz=>by
   rcases kE hz with q | q
   ·exact O.k2 z q
   ·subst q;exact ⟨y0,y1⟩,aG (vQ _ _ _) hl,O.m1,O.m2,O.m3⟩
 ·rw [j6 (j1 hd S.f1)]
  exact S.X d o hd n
theorem uc {α β:Type}{l:List (α×β)}{n:Nat}{a:α}{u v:β}(nd:(l.map (·.1)).Nodup) (hn:l[n]? = some (a,u)) {x:α×β}(hx:x∈l.set n (a,v)):x=(a,v)\/(x∈l/\x.1≠a):=by
 obtain ⟨i,hi,e⟩:=List.mem_iff_getElem.mp hx
 have hi':i<l.length:=by rw [il] at hi;exact hi
 obtain ⟨hn1,hn2⟩:=List.getElem?_eq_some_iff.mp hn
 by_cases q:n=i
 ·subst q
  rw [List.getElem_set_self] at e
  exact .inl e.symm
 ·rw [List.getElem_set_ne q] at e
  refine .inr ⟨e ▸ bU hi',λz=>q ?_⟩
  have h1:(l.map (·.1))[n]'(by rw [ah];exact hn1)=(l.map (·.1))[i]'(by rw [ah];exact hi'):=by
   rw [dJ,dJ,hn2,e,z]
  rcases Nat.lt_trichotomy n i with g | g | g
  ·exact absurd h1 (List.pairwise_iff_getElem.mp nd n i _ _ g)
  ·exact g
  ·exact absurd h1.symm (List.pairwise_iff_getElem.mp nd i n _ _ g)
theorem Zc {α β:Type}{l:List (α×β)}{n:Nat}{a:α}{u v:β}(hn:l[n]? = some (a,u)):(l.set n (a,v)).map (·.1)=l.map (·.1):=by
 obtain ⟨hn1,hn2⟩:=List.getElem?_eq_some_iff.mp hn
 rw [List.map_set]
 refine lh λi=>?_
 rw [fP]
 by_cases q:n=i
 ·subst q
  rw [if_pos rfl,if_pos (by rw [ah];exact hn1),ax,hn]
  rfl
 ·rw [if_neg q]
theorem ScB.leap {L b:Addr}{H H2:Hp}{sd a:Addr}{c:ScN}{n:Nat}{y m:Int}{ns:List (Int×Int)}(S:ScB L b H H2 sd c) (hn:c.lds[n]? = some (a,ns)) (y0:0<=y) (y1:y<=99) (m0:1<=m) (m1:m<=9) (hl:ns.length+1<=10) :
  ScB L b H (upd H2 a (.dK (qt (ns.map kvI) (.inl y) (.int m)))) sd { c with lds:=c.lds.set n (a,xF ns y m) }:=by
 have e:qt (ns.map kvI) (.inl y) (.int m)=(xF ns y m).map kvI:=kG V.int ns y m
 rw [e]
 have hm:=aw hn
 have ra:=S.r2 _ hm
 have nT:∀{d:Addr} {o:HO},H2 d=some o->(∀kvs,o≠.dK kvs)->(upd H2 a (.dK ((xF ns y m).map kvI))) d=some o:=λh n=>by rw [j6 (ji h ra (n _))];exact h
 have sdn:sd≠a:=(XG (f:=V.int) S.S.sd (S.S.ld _ hm)).symm
 have hb:∃xs,H2 b=some (.lst xs):=by
  obtain ⟨_,_,_,_,_,hb,_⟩:=S.B
  exact ⟨_,hb⟩
 obtain ⟨_,hb⟩:=hb
 have hL:∃xs,H2 L=some (.lst xs):=by
  obtain ⟨_,_,_,_,_,_,_,hL,_⟩:=S.B
  exact ⟨_,hL⟩
 obtain ⟨_,hL⟩:=hL
 have fs:=Zc (v:=xF ns y m) hn
 have fs2:(c.lds.set n (a,xF ns y m)).map (λx=>V.ref x.1)=c.lds.map λx=>V.ref x.1:=by
  have:=congrArg (rQ V.ref) fs
  rw [bP,bP] at this
  exact this
 have sg:c.sg≠a:=(S.O.ns _ hm).symm
 have r2:∀x∈c.lds.set n (a,xF ns y m),(upd H2 a (.dK ((xF ns y m).map kvI))) x.1=some (.dK (x.2.map kvI)):=λx hx=>by
  rcases uc S.O.nd hn hx with z | ⟨z,w⟩
  ·subst z
   exact j5
  ·rw [j6 w]
   exact S.r2 x z
 have mem:∀x∈c.lds.set n (a,xF ns y m),∃x'∈c.lds,x'.1=x.1:=λx hx=>by
  have:x.1∈(c.lds.set n (a,xF ns y m)).map (·.1):=bG hx
  rw [fs] at this
  exact List.mem_map.mp this
 have O:=S.O
 refine ⟨⟨by rw [j6 sdn];exact S.S.sd,nT S.S.p (by walk_at "w"),S.S.rv.keep λ_ _ h=>nT h (by walk_at "w"),nT S.S.q (by walk_at "w"),S.S.r3.imp λ_ _ h=>nT h (by walk_at "w"),nT S.S.gl (by walk_at "w"),pmM S.S.gi λv hv w ⟨a,ea,q⟩=>⟨a,ea,nT q (by walk_at "w")⟩,?_,.inl (by show upd _ _ _ c.sg=_;rw [j6 sg];exact S.r1),λz hz=>?_,λx hx=>.inl (r2 x hx)⟩,⟨O.gr,O.l1,O.l8,O.t1,O.t2,O.tg,O.ro,?_,?_,?_,O.pb,O.qb,O.gb,O.lb,O.zb,O.k1,O.k2,O.k3,?_,?_,?_⟩,(by show upd _ _ _ c.sg=_;rw [j6 sg];exact S.r1),r2,S.B.put (ji ra hb (by walk_at "z")) (ji ra hL (by walk_at "z")),λd o hd n=>?_,S.f1,?_⟩
 ·show _=some (HO.lst ((c.lds.set n (a,xF ns y m)).map λx=>V.ref x.1))
  rw [fs2]
  exact nT S.S.ll (by walk_at "w")
 ·obtain ⟨u,hu,g⟩:=S.S.sk _ hz
  exact ⟨u,nT hu (by walk_at "w"),g⟩
 ·show (c.lds.set n (a,xF ns y m)).length=_
  rw [il]
  exact O.ldl
 ·show ((c.lds.set n (a,xF ns y m)).map (·.1)).Nodup
  rw [fs]
  exact O.nd
 ·intro x hx
  obtain ⟨x',h1,h2⟩:=mem x hx
  rw [<- h2]
  exact O.ns x' h1
 ·intro x hx
  rcases uc S.O.nd hn hx with z | ⟨z,w⟩
  ·subst z;exact ke (O.m1 _ hm)
  ·exact O.m1 x z
 ·intro x hx
  rcases uc S.O.nd hn hx with z | ⟨z,w⟩
  ·subst z
   intro u hu
   rcases kE hu with q | q
   ·exact O.m2 _ hm u q
   ·subst q;exact ⟨y0,y1,m0,m1⟩
  ·exact O.m2 x z
 ·intro x hx
  rcases uc S.O.nd hn hx with z | ⟨z,w⟩
  ·subst z;exact aG (vQ _ _ _) hl
  ·exact O.m3 x z
 ·rw [j6 (j1 hd (S.f2 _ hm))]
  exact S.X d o hd n
 ·intro x hx
  obtain ⟨x',h1,h2⟩:=mem x hx
  rw [<- h2]
  exact S.f2 x' h1
theorem put4 {p q sg gl:Addr}:qt (x4 [] [(.inr "reaches",.ref p),(.inr "rows",.ref q),(.inr "single",.ref sg)]) (.inr "grounds") (.ref gl)=[((.inr "reaches",.ref p):Key×V),(.inr "rows",.ref q),(.inr "single",.ref sg),(.inr "grounds",.ref gl)]:=by
 have e1:(qt [] (.inr "reaches") (.ref p):List (Key×V))=[(.inr "reaches",.ref p)]:=zP _ yw
 have e2:qt [((.inr "reaches",.ref p):Key×V)] (.inr "rows") (.ref q)=[(.inr "reaches",.ref p),(.inr "rows",.ref q)]:=zP _ ((jt (show (ba (aj "reaches"):Key)≠ba (aj "rows") by decide +kernel)).trans yw)
 have e3:qt [((.inr "reaches",.ref p):Key×V),(.inr "rows",.ref q)] (.inr "single") (.ref sg)=[(.inr "reaches",.ref p),(.inr "rows",.ref q),(.inr "single",.ref sg)]:=zP _ ((jt (show (ba (aj "reaches"):Key)≠ba (aj "single") by decide +kernel)).trans ((jt (show (ba (aj "rows"):Key)≠ba (aj "single") by decide +kernel)).trans yw))
 have e4:qt [((.inr "reaches",.ref p):Key×V),(.inr "rows",.ref q),(.inr "single",.ref sg)] (.inr "grounds") (.ref gl)=[((.inr "reaches",.ref p):Key×V),(.inr "rows",.ref q),(.inr "single",.ref sg),(.inr "grounds",.ref gl)]:=zP _ ((jt (show (ba (aj "reaches"):Key)≠ba (aj "grounds") by decide +kernel)).trans ((jt (show (ba (aj "rows"):Key)≠ba (aj "grounds") by decide +kernel)).trans ((jt (show (ba (aj "single"):Key)≠ba (aj "grounds") by decide +kernel)).trans yw)))
 have e:x4 [] [((.inr "reaches",.ref p):Key×V),(.inr "rows",.ref q),(.inr "single",.ref sg)]=[(.inr "reaches",.ref p),(.inr "rows",.ref q),(.inr "single",.ref sg)]:=by
  show qt (qt (qt ([]:List (Key×V)) (.inr "reaches") (.ref p)) (.inr "rows") (.ref q)) (.inr "single") (.ref sg)=_
  rw [e1,e2,e3]
 rw [e,e4]
theorem put5 {p q sg gl ll:Addr}:qt [((.inr "reaches",.ref p):Key×V),(.inr "rows",.ref q),(.inr "single",.ref sg),(.inr "grounds",.ref gl)] (.inr "leaps") (.ref ll)=scK p q sg gl ll :=
 zP _ ((jt (show (ba (aj "reaches"):Key)≠ba (aj "leaps") by decide +kernel)).trans ((jt (show (ba (aj "rows"):Key)≠ba (aj "leaps") by decide +kernel)).trans ((jt (show (ba (aj "single"):Key)≠ba (aj "leaps") by decide +kernel)).trans ((jt (show (ba (aj "grounds"):Key)≠ba (aj "leaps") by decide +kernel)).trans yw))))
theorem JZ (p q sg gl:Addr):jP [((.inr "reaches",.ref p):Key×V),(.inr "rows",.ref q),(.inr "single",.ref sg),(.inr "grounds",.ref gl)] (.inr "grounds")=some (.ref gl):=(jt (show (ba (aj "reaches"):Key)≠ba (aj "grounds") by decide +kernel)).trans ((jt (show (ba (aj "rows"):Key)≠ba (aj "grounds") by decide +kernel)).trans ((jt (show (ba (aj "single"):Key)≠ba (aj "grounds") by decide +kernel)).trans xc))
theorem XO {rs:List Rch}(G:Grown rs):∀r∈rs,r.2.length<=12:=λr hr=>by
 obtain ⟨i,hi,e⟩:=List.mem_iff_getElem.mp hr
 have:=gY G.ok (ae hi)
 rw [e] at this
 unfold okR at this
 rw [aY,aY] at this
 have:=of_decide_eq_true this.1.2
 omega
theorem VO {v:Int}(a:0<=v) (b:v<3):∃n,atI [V.int 1,V.int 4,V.int 9] v=some (V.int n)/\0<n/\n<=9:=by
 have h:v=0\/v=1\/v=2:=()
 rcases h with rfl | rfl | rfl
 ·exact ⟨1,rfl,(),()⟩
 ·exact ⟨4,rfl,(),()⟩
 ·exact ⟨9,rfl,(),()⟩
theorem U1 {v:Int}(a:0<=v) (b:v<3):∃n,atI [V.int 1,V.int 3,V.int 7] v=some (V.int n)/\0<n/\n<=7:=by
 have h:v=0\/v=1\/v=2:=()
 rcases h with rfl | rfl | rfl
 ·exact ⟨1,rfl,(),()⟩
 ·exact ⟨3,rfl,(),()⟩
 ·exact ⟨7,rfl,(),()⟩
theorem WW {v:Int}(a:0<=v) (b:v<2):∃n,atI [V.int 2,V.int 9] v=some (V.int n)/\0<n/\n<=9:=by
 have h:v=0\/v=1:=()
 rcases h with rfl | rfl
 ·exact ⟨2,rfl,(),()⟩
 ·exact ⟨9,rfl,(),()⟩
theorem gH {rs:List Rch}(L:xr rs) (h:1<=rs.length):1<=(jq rs).length:=by
 have:(rs.length-1)∈jq rs:=by
  refine List.mem_filter.mpr ⟨List.mem_range.mpr (),?_⟩
  unfold jL
  rw [decide_eq_false]
  ·rfl
  ·intro z
   have:=QG L z
   omega
 exact fM this
noncomputable def Za:Sp:=λvs H Q _=>∃(L b:Addr),vs=[.ref b]/\qi L H b/\∀sd H' c,qi L H' b->Ext b H H'->ScAt H' sd c->ScOk b c->Q (.ref sd) H'
theorem qZ:FnScope ["_law_box_here","_law_reaches_here","_law_scene_here","_law_turn","_law_lane"] ["_law_box_here"] (j8 xQ):=by walk_at "s"
theorem YX {f:Addr}{fd:FuncData}(nb:Nb2 mg) (c_law_take:Cal P w K mg base 2 "_law_take" ["_law_box_here","_law_size"] zk) (c_law_reaches:Cal P w K mg base 4 "_law_reaches" ["_law_box_here"] wS) (c_law_round:Cal P w K mg base 4 "_law_round" ["_law_box_here"] uG) (c_law_ground:Cal P w K mg base 1 "_law_ground" ["_law_reaches_here","_law_road"] (Ql K)) (c_law_roads:Cal P w K mg base 1 "_law_roads" ["_law_reaches_here"] (JT K)) (c_law_year:Cal P w K mg base 3 "_law_year" ["_law_box_here"] YU) (c_law_weather:Cal P w K mg base 3 "_law_weather" ["_law_box_here"] uo)
  (F:Fun K "_law_scene" "_law_scene" xQ f fd):FnOk P w K mg base CX0 5 f fd ["_law_box_here"] Za:=by
 refine F.ok qZ (λvs H Q E h=>?_) (λcdv A outer s H vs Q E hr h=>?_)
 ·obtain ⟨L,b,rfl,_⟩:=h
  rfl
 ·obtain ⟨L,b,rfl,B,k⟩:=h
  refine ⟨_,(j4 (yy (i:=1) qZ.nd rfl (fW rfl) (jg c_law_reaches (hr.mono ⋯) rfl (j0 (pv 0) j2)))
   (j4 (jx 2 qZ.nd (U9 (ww jB (pv 1) (ww jB (jg c_law_round (hr.mono ⋯) rfl (j0 (pv 0) j2)) (ww jB zM VJ))) rfl rfl (λz=>by cases z) ⋯))
   (j4 (xY (jQ hr) (pv 2) jB (jS (osc:=(j8 xQ)) (ON:=["_law_box_here","_law_reaches_here","_law_scene_here","_law_turn","_law_lane"]) (N:=["_law_road","_law_reaches_here"]) (own:=1) (caps:=[1]) ⟨rfl,∅,∅,∅,rfl,∅⟩ rfl rfl rfl (jT K (jg c_law_roads (hr.mono ⋯) rfl (j0 (pv 1) j2))) (λ_ _ _ _ _=>(jb (i:=0) (show bc (["_law_road","_law_reaches_here"]:List Str) by decide +kernel) rfl (aP rfl))) (λ_ _ _ _ _=>jH) (λ_ _ _ _ _=>(jg c_law_ground (hr.mono ⋯) rfl (j0 (pv 1) (j0 (pv 0) j2))))) rfl)
   (Jf (xY (jQ hr) (pv 2) jB (jS (osc:=(j8 xQ)) (ON:=["_law_box_here","_law_reaches_here","_law_scene_here","_law_turn","_law_lane"]) (N:=["_law_ground_here"]) (own:=1) (caps:=[]) ⟨rfl,∅,∅,∅,rfl,∅⟩ rfl rfl rfl (jT K (jI (jQ hr) (pv 2) jB (λ_ _=>rfl))) (λ_ _ _ _ _=>(jb (i:=0) (show bc (["_law_ground_here"]:List Str) by decide +kernel) rfl (aP rfl))) (λ_ _ _ _ _=>jH) (λ_ _ _ _ _=>zM)) rfl)
   (Jf (qv aW rfl (qd rfl nb.b_range (j0 (jg c_law_take (hr.mono ⋯) rfl (j0 (pv 0) (j0 (js (jd K) (jZ (j0 j7 (j0 j7 (j0 j7 j2)))) (jg c_law_take (hr.mono ⋯) rfl (j0 (pv 0) (j0 j7 j2))) (λ_ _=>rfl)) j2))) j2)) (jb (i:=3) qZ.nd rfl (aP rfl)) (j9 (xY (jQ hr) (jI (jQ hr) (pv 2) jB (λ_ _=>rfl)) (jg c_law_year (hr.mono ⋯) rfl (j0 (pv 0) j2)) (jg c_law_weather (hr.mono ⋯) rfl (j0 (pv 0) j2)) rfl)))
   (j4 (qv aW rfl (qd rfl nb.b_range (j0 (jg c_law_take (hr.mono ⋯) rfl (j0 (pv 0) (j0 (js (jd K) (jZ (j0 j7 (j0 j7 (j0 j7 j2)))) (jg c_law_take (hr.mono ⋯) rfl (j0 (pv 0) (j0 j7 j2))) (λ_ _=>rfl)) j2))) j2)) (jb (i:=3) qZ.nd rfl (aP rfl)) (j4 (jx 4 qZ.nd (jg c_law_take (hr.mono ⋯) rfl (j0 (pv 0) (j0 (je (jh K) rfl nb.b_len aV (j0 (jI (jQ hr) (pv 2) jB (λ_ _=>rfl)) j2)) j2))))
   (j9 (xY (jQ hr) (js (jd K) (jI (jQ hr) (pv 2) jB (λ_ _=>rfl)) (pv 4) (λ_ _=>rfl)) (jg c_law_year (hr.mono ⋯) rfl (j0 (pv 0) j2)) (jr jN j7 (jg c_law_take (hr.mono ⋯) rfl (j0 (pv 0) (j0 (js (jd K) (jZ (j0 j7 (j0 j7 j2))) (jg c_law_take (hr.mono ⋯) rfl (j0 (pv 0) (j0 j7 j2))) (λ_ _=>rfl)) j2)))) rfl))))
   (j9 (jm (pv 2))))))))),?_⟩
  left
  refine ⟨L,b,rfl,B,λp H1 xs rs B1 X1 hp hp1 r1 g1 l1 l8=>?_⟩
  have pb:p≠b:=B.ne hp
  left
  intro sd hsd
  have sdb:sd≠b:=B1.ne hsd
  have sd0:H sd=none:=X1.free hsd sdb
  left
  have Ba:qi L (upd H1 sd (.dK [])) b:=B1.put sdb (B1.neL hsd)
  refine ⟨L,b,rfl,Ba,λq Hb ys ts Bb Xb hq hqb r3b ht12 htg=>?_⟩
  have qb:q≠b:=Ba.ne hq
  have qsd:q≠sd:=λz=>by rw [z,j5] at hq;cases hq
  have sdB:Hb sd=some (.dK []):=Xb _ _ j5 sdb
  have pB:Hb p=some (.lst xs):=Xb _ _ (by rw [j6 (j1 hp1 hsd)];exact hp1) pb
  have rB:jU Hb xs rs:=(r1.keep (jk.same (jn.new hsd))).keep (zW Ba Xb)
  have XB:Ext b H Hb:=(X1.trans (Ext.new hsd)).trans Xb
  left
  intro sg hsg
  have sgb:sg≠b:=Bb.ne hsg
  have sg0:H sg=none:=XB.free hsg sgb
  have sgsd:sg≠sd:=(j1 sdB hsg).symm
  left
  refine ⟨by rw [j6 sgsd.symm];exact sdB,[(.inr "reaches",.ref p),(.inr "rows",.ref q),(.inr "single",.ref sg)],rfl,by show 3<=15;decide,?_⟩
  have sC:jn Hb (upd Hb sg (.dK [])):=jn.new hsg
  have nD:∀{a:Addr} {o:HO},Hb a=some o->a≠sd->(upd (upd Hb sg (.dK [])) sd (.dK (x4 [] [(.inr "reaches",.ref p),(.inr "rows",.ref q),(.inr "single",.ref sg)]))) a=some o:=λh n=>by rw [j6 n];exact sC _ _ h
  have dD:(upd (upd Hb sg (.dK [])) sd (.dK (x4 [] [(.inr "reaches",.ref p),(.inr "rows",.ref q),(.inr "single",.ref sg)]))) sd=some (.dK (x4 [] [(.inr "reaches",.ref p),(.inr "rows",.ref q),(.inr "single",.ref sg)])):=j5
  have pD:=nD pB (ji pB sdB (by walk_at "z"))
  have rD:jU (upd (upd Hb sg (.dK [])) sd (.dK (x4 [] [(.inr "reaches",.ref p),(.inr "rows",.ref q),(.inr "single",.ref sg)]))) xs rs:=rB.keep λ_ _ h=>nD h (ji h sdB (by walk_at "z"))
  have qD:=nD hqb qsd
  have r3D:jG (upd (upd Hb sg (.dK [])) sd (.dK (x4 [] [(.inr "reaches",.ref p),(.inr "rows",.ref q),(.inr "single",.ref sg)]))) ys ts:=r3b.imp λ_ _ h=>nD h (ji h sdB (by walk_at "z"))
  have sgD:(upd (upd Hb sg (.dK [])) sd (.dK (x4 [] [(.inr "reaches",.ref p),(.inr "rows",.ref q),(.inr "single",.ref sg)]))) sg=some (.dK []):=by rw [j6 sgsd];exact j5
  have BD:qi L (upd (upd Hb sg (.dK [])) sd (.dK (x4 [] [(.inr "reaches",.ref p),(.inr "rows",.ref q),(.inr "single",.ref sg)]))) b:=(Bb.same sC).put sdb (B1.neL hsd)
  have XD:Ext b H (upd (upd Hb sg (.dK [])) sd (.dK (x4 [] [(.inr "reaches",.ref p),(.inr "rows",.ref q),(.inr "single",.ref sg)]))):=λc o h n=>nD (XB c o h n) (j1 h sd0)
  clear nD sC hsg sdB pB rB XB hqb r3b Bb Xb hq Ba
  generalize (upd (upd Hb sg (.dK [])) sd (.dK (x4 [] [(.inr "reaches",.ref p),(.inr "rows",.ref q),(.inr "single",.ref sg)])))=Hd at *
  have Ld:=qe g1.ok
  left
  refine ⟨p,xs,rs,rfl,pD,rD,Ld,(),λl He out ws hl hle w1 hR s1=>?_⟩
  left
  refine ⟨⟨_,SqL.of hle⟩,λgl hgl=>?_⟩
  have hlw:out.length=ws.length:=aX w1
  have hws:ws.length<=6:=by rw [hR.length];exact g1.heads
  have h100:∀r∈rs,r.2.length<=100:=λr hr=>aG (XO g1 r hr) ⋯
  have BE:=BD.same s1
  have glb:gl≠b:=BE.ne hgl
  refine qp (K:=K) (a:=l) (xs:=out) (acc:=gl) (λi σ H2=>∃(x:Option V) (zs:List V),σ=[x,some (.ref p)]/\H2 gl=some (.lst zs)/\zs.length=i/\cO (λv (w:List Int)=>∃a,v=V.ref a/\H2 a=some (.lst (w.map V.int))/\He a=none/\a≠gl) zs ((ws.take i).map (jc rs))/\Ext gl He H2) ?_ ?_ ?_ ?_
  ·exact ⟨none,[],rfl,j5,rfl,.nil,Ext.put⟩
  ·rintro i σ H2 hi ⟨x,zs,rfl,h2,hz,r2,e2⟩
   exact SqL.of (e2 _ _ hle (j1 hle hgl))
  ·rintro i v σ H2 hv ⟨x,zs,rfl,h2,hz,r2,e2⟩
   obtain ⟨wy,hwy,a,rfl,ha1⟩:=Paired.get w1 hv
   have hi:=(List.getElem?_eq_some_iff.mp hwy).1
   obtain ⟨x',hx',ewy⟩:=hR.mem (aw hwy)
   have ha2:=e2 _ _ ha1 (j1 ha1 hgl)
   have hr1:=s1 _ _ pD
   have hl':=vY Ld x' (xD hx')
   have:=xD hx'
   left
   refine ⟨p,a,xs,rs,wy,rfl,e2 _ _ hr1 (j1 hr1 hgl),(rD.keep (jk.same s1)).keep (jk.new e2 hgl),h100,ha2,by rw [ewy];exact xM Ld x' (xD hx'),by rw [ewy];omega,λt H3 ht ht3 s3=>?_⟩
   have ta:t≠gl:=(j1 h2 ht).symm
   refine ⟨zs,s3 _ _ h2,jj (),some (.ref a),zs++[.ref t],rfl,j5,by rw [aq,hz];rfl,?_,λc o hc n=>by rw [j6 n];exact s3 _ _ (e2 c o hc n)⟩
   rw [qy (jc rs) ws i wy hwy]
   exact cP (Paired.mapP r2 λv wy ⟨a,e,ha,h0,na⟩=>⟨a,e,by rw [j6 na];exact s3 _ _ ha,h0,na⟩) ⟨t,rfl,by rw [j6 ta];exact ht3,e2.free ht ta,ta⟩
  rintro σ H2 ⟨x,zs,rfl,h2,hz,r2,e2⟩
  rw [hlw,aZ] at r2
  have gi2:yj H2 zs (ws.map (jc rs)):=Paired.mapP r2 λv wy ⟨a,e,ha,h0,na⟩=>⟨a,e,ha⟩
  have zb:V.ref b∉zs:=λz=>by
   obtain ⟨_,a,e,_,h0,_⟩:=pm r2 _ z
   cases e
   exact absurd rfl (BE.ne h0)
  have s2:jn Hd H2:=λc o hc=>e2 _ _ (s1 _ _ hc) (j1 (s1 _ _ hc) hgl)
  have gl0:Hd gl=none:=s1.free hgl
  left
  refine ⟨sd,_,rfl,vn.k (k:=.inr "grounds") (s2 _ _ dD) (jj (aG (zG _ _) (by show 0+3<=1000;decide))),?_⟩
  rw [put4]
  have nF:∀{a:Addr} {o:HO},H2 a=some o->(∀kvs,o≠.dK kvs)->(upd H2 sd (.dK [((.inr "reaches",.ref p):Key×V),(.inr "rows",.ref q),(.inr "single",.ref sg),(.inr "grounds",.ref gl)])) a=some o:=λh n=>by rw [j6 (ji h (s2 _ _ dD) (n _))];exact h
  have dF:(upd H2 sd (.dK [((.inr "reaches",.ref p):Key×V),(.inr "rows",.ref q),(.inr "single",.ref sg),(.inr "grounds",.ref gl)])) sd=some (.dK [((.inr "reaches",.ref p):Key×V),(.inr "rows",.ref q),(.inr "single",.ref sg),(.inr "grounds",.ref gl)]):=j5
  have pF:=nF (s2 _ _ pD) (by walk_at "w")
  have qF:=nF (s2 _ _ qD) (by walk_at "w")
  have rF:jU (upd H2 sd (.dK [((.inr "reaches",.ref p):Key×V),(.inr "rows",.ref q),(.inr "single",.ref sg),(.inr "grounds",.ref gl)])) xs rs:=rD.keep λ_ _ h=>nF (s2 _ _ h) (by walk_at "w")
  have r3F:jG (upd H2 sd (.dK [((.inr "reaches",.ref p):Key×V),(.inr "rows",.ref q),(.inr "single",.ref sg),(.inr "grounds",.ref gl)])) ys ts:=r3D.imp λ_ _ h=>nF (s2 _ _ h) (by walk_at "w")
  have gF:=nF h2 (by walk_at "w")
  have giF:yj (upd H2 sd (.dK [((.inr "reaches",.ref p):Key×V),(.inr "rows",.ref q),(.inr "single",.ref sg),(.inr "grounds",.ref gl)])) zs (ws.map (jc rs)):=Paired.mapP gi2 λv wy ⟨a,e,ha⟩=>⟨a,e,nF ha (by walk_at "w")⟩
  have sgF:(upd H2 sd (.dK [((.inr "reaches",.ref p):Key×V),(.inr "rows",.ref q),(.inr "single",.ref sg),(.inr "grounds",.ref gl)])) sg=some (.dK []):=by rw [j6 sgsd];exact s2 _ _ sgD
  have BF:qi L (upd H2 sd (.dK [((.inr "reaches",.ref p):Key×V),(.inr "rows",.ref q),(.inr "single",.ref sg),(.inr "grounds",.ref gl)])) b:=(BD.same s2).put sdb (B1.neL hsd)
  have XF:Ext b H (upd H2 sd (.dK [((.inr "reaches",.ref p):Key×V),(.inr "rows",.ref q),(.inr "single",.ref sg),(.inr "grounds",.ref gl)])):=λc o h n=>by rw [j6 (j1 h sd0)];exact s2 _ _ (XD c o h n)
  clear nF gi2 s2 h2 r2 e2 BE hgl s1 w1 hle hl pD rD qD r3D sgD BD XD dD h100
  generalize (upd H2 sd (.dK [((.inr "reaches",.ref p):Key×V),(.inr "rows",.ref q),(.inr "single",.ref sg),(.inr "grounds",.ref gl)]))=Hf at *
  have hzw:zs.length<=6:=()
  refine ⟨λσ H5=>∃c,σ=[some (.ref b),some (.ref p),some (.ref sd),none,none]/\ScB L b H H5 sd c/\c.sk=[]/\∀x∈c.lds,x.2=[],?_,?_⟩
  ·left
   refine ⟨sd,.ref gl,rfl,by rw [<- JZ p q sg gl];exact xo.k (k:=.inr "grounds") dF,?_⟩
   left
   refine ⟨⟨_,SqL.of gF⟩,λle hle=>?_⟩
   have leb:le≠b:=BF.ne hle
   refine qp (K:=K) (a:=gl) (xs:=zs) (acc:=le) (λi σ He=>∃(x:Option V) (lds:List (Addr×List (Int×Int))),σ=[x]/\He le=some (.lst (lds.map λx=>V.ref x.1))/\lds.length=i/\(∀x∈lds,He x.1=some (.dK [])/\x.2=[]/\Hf x.1=none/\x.1≠le)/\(lds.map (·.1)).Nodup/\Ext le Hf He) ?_ ?_ ?_ ?_
   ·exact ⟨none,[],rfl,j5,rfl,(λx z=>by cases z),fN,Ext.put⟩
   ·rintro i σ He hi ⟨x,lds,rfl,he,hl,hd,nn,e⟩
    exact SqL.of (e _ _ gF (j1 gF hle))
   ·rintro i v σ He hv ⟨x,lds,rfl,he,hl,hd,nn,e⟩
    have hi:=(List.getElem?_eq_some_iff.mp hv).1
    left
    intro d hd0
    have dl:d≠le:=(j1 he hd0).symm
    refine ⟨_,(by rw [j6 (cq dl)];exact he),by rw [ah];exact jj (),some v,lds++[(d,[])],rfl,(by rw [j5,aA];rfl),(by rw [aq,hl];rfl),λy hy=>?_,?_,λc o hc n=>?_⟩
    ·rcases List.mem_append.mp hy with z | z
     ·obtain ⟨h1,h2,h3,h4⟩:=hd y z
      exact ⟨by rw [j6 h4,j6 (j1 h1 hd0)];exact h1,h2,h3,h4⟩
     ·obtain rfl:y=(d,[]):=by simpa using z
      exact ⟨by rw [j6 dl];exact j5,rfl,e.free hd0 dl,dl⟩
    ·rw [aA]
     refine uY nn λz=>?_
     obtain ⟨y,hy,ey⟩:=List.mem_map.mp z
     have:=(hd y hy).1
     rw [ey,hd0] at this
     cases this
    ·rw [j6 n,j6 (j1 (e c o hc n) hd0)]
     exact e c o hc n
   ·rintro σ He ⟨x,lds,rfl,he,hl,hd,nn,e⟩
    have sE:jn Hf He:=λc o h=>e c o h (j1 h hle)
    left
    refine ⟨sd,_,rfl,vn.k (k:=.inr "leaps") (sE _ _ dF) (by show 4<sizeLine;decide),?_⟩
    rw [put5]
    have nG:∀{a:Addr} {o:HO},He a=some o->(∀kvs,o≠.dK kvs)->(upd He sd (.dK (scK p q sg gl le))) a=some o:=λh n=>by rw [j6 (ji h (sE _ _ dF) (n _))];exact h
    have lG:∀x∈lds,(upd He sd (.dK (scK p q sg gl le))) x.1=some (.dK (x.2.map kvI)):=λx hx=>by
     obtain ⟨h1,h2,h3,h4⟩:=hd x hx
     rw [j6 (j1 dF h3).symm,h2]
     exact h1
    have sgG:(upd He sd (.dK (scK p q sg gl le))) sg=some (.dK []):=by rw [j6 sgsd];exact sE _ _ sgF
    refine ⟨⟨p,q,sg,gl,le,xs,ys,zs,rs,ts,ws,[],lds⟩,rfl,⟨⟨j5,nG (sE _ _ pF) (by walk_at "w"),rF.keep λ_ _ h=>nG (sE _ _ h) (by walk_at "w"),nG (sE _ _ qF) (by walk_at "w"),r3F.imp λ_ _ h=>nG (sE _ _ h) (by walk_at "w"),nG (sE _ _ gF) (by walk_at "w"),Paired.mapP giF λv wy ⟨a,e,ha⟩=>⟨a,e,nG (sE _ _ ha) (by walk_at "w")⟩,nG he (by walk_at "w"),.inl sgG,(λz hz=>by cases hz),λx hx=>.inl (lG x hx)⟩,
     ⟨g1,l1,l8,ht12.1,ht12.2,htg,hR,hl.trans (hz.trans hlw),nn,λx hx=>(j1 sgF (hd x hx).2.2.1).symm,pb,qb,glb,leb,zb,fN,(λz hz=>by cases hz),aE _,(λx hx=>by rw [(hd x hx).2.1];exact fN),(λx hx=>by rw [(hd x hx).2.1];intro z hz;cases hz),(λx hx=>by rw [(hd x hx).2.1];exact aE _)⟩,sgG,lG,(BF.same sE).put sdb (B1.neL hsd),λc o h n=>?_,sg0,λx hx=>?_⟩,rfl,λx hx=>(hd x hx).2.1⟩
    ·rw [j6 (j1 h sd0)]
     exact sE _ _ (XF c o h n)
    ·exact XF.free (hd x hx).2.2.1 (BF.ne (hd x hx).2.2.1)
  rintro σ H5 ⟨c,rfl,S5,k5,l5⟩
  clear dF pF qF rF r3F gF giF sgF BF XF zb hlw hws hz hzw
  refine ⟨λσ H6=>∃(x:Option V) (c:ScN),σ=[some (.ref b),some (.ref p),some (.ref sd),x,none]/\ScB L b H H6 sd c/\∀x∈c.lds,x.2=[],?_,?_⟩
  ·left
   refine ⟨by show 3<=sizeLine;decide,λl6 H6 hl6 hl66 s6=>?_⟩
   have S6:=S5.same s6
   have l6b:l6≠b:=S5.B.ne hl6
   left
   refine ⟨L,b,_,rfl,S6.B,⟨⋯,⋯⟩,λv7 H7 p7 q7 B7 X7=>?_⟩
   have S7:=S6.take B7 X7
   obtain ⟨n,hn,n0,n1⟩:=VO p7 q7
   refine ⟨_,_,_,_,rfl,rfl,SqL.of (X7 _ _ hl66 l6b),hn,?_⟩
   left
   refine ⟨L,b,_,rfl,S7.B,⟨n0,()⟩,λv8 H8 p8 q8 B8 X8=>?_⟩
   have S8:=S7.take B8 X8
   left
   refine ⟨(),(),?_⟩
   refine qU (λi σ H2=>∃(x:Option V) (c:ScN),σ=[some (.ref b),some (.ref p),some (.ref sd),x,none]/\ScB L b H H2 sd c/\c.sk.length<=i/\∀x∈c.lds,x.2=[]) ?_ ?_ ?_
   ·exact ⟨none,c,rfl,S8,by rw [k5];exact ao _,l5⟩
   ·rintro i σ H2 hi ⟨x,c,rfl,S,hk,hl⟩
    left
    refine ⟨L,b,rfl,S.B,λt H9 r B9 X9 ht hg=>?_⟩
    have S9:=S.take B9 X9
    left
    refine ⟨sd,.ref c.sg,rfl,by rw [<- zN c.p c.q c.sg c.gl c.ll];exact xo.k (k:=.inr "single") S9.S.sd,?_⟩
    left
    refine ⟨L,b,rfl,S9.B,λy H10 y0 y1 B10 X10=>?_⟩
    have S10:=S9.take B10 X10
    refine ⟨c.sg,_,rfl,vn.k (k:=.inl y) S10.r1 (by rw [ah];exact jj (by have:=S10.O.k3;omega)),?_⟩
    exact ⟨_,{ c with sk:=xF c.sk y t },rfl,S10.single y0 y1 (X10 _ _ ht (S9.B.ne_tup ht)) hg (),aG (vQ _ _ _) (),hl⟩
   ·rintro σ H2 ⟨x,c,rfl,S,hk,hl⟩
    exact ⟨x,c,rfl,S,hl⟩
  clear S5 k5 l5
  rintro σ H6 ⟨x,c,rfl,S6,l6⟩
  left
  refine ⟨by show 3<=sizeLine;decide,λl7 H7 hl7 hl77 s7=>?_⟩
  have S7:=S6.same s7
  have l7b:l7≠b:=S6.B.ne hl7
  left
  refine ⟨L,b,_,rfl,S7.B,⟨⋯,⋯⟩,λv8 H8 p8 q8 B8 X8=>?_⟩
  have S8:=S7.take B8 X8
  obtain ⟨n,hn,n0,n1⟩:=U1 p8 q8
  refine ⟨_,_,_,_,rfl,rfl,SqL.of (X8 _ _ hl77 l7b),hn,?_⟩
  left
  refine ⟨L,b,_,rfl,S8.B,⟨n0,()⟩,λv9 H9 p9 q9 B9 X9=>?_⟩
  have S9:=S8.take B9 X9
  left
  refine ⟨(),(),?_⟩
  refine qU (λi σ H2=>∃(x y:Option V) (c:ScN),σ=[some (.ref b),some (.ref p),some (.ref sd),x,y]/\ScB L b H H2 sd c/\∀x∈c.lds,x.2.length<=i) ?_ ?_ ?_
  ·exact ⟨x,none,c,rfl,S9,λx hx=>by rw [l6 x hx];exact ao _⟩
  ·rintro i σ H2 hi ⟨x,y',c,rfl,S,hl⟩
   have hw1:1<=c.ws.length:=by
    rw [S.O.ro.length]
    exact gH (qe S.O.gr.ok) S.O.l1
   have hzl:c.zs.length=c.ws.length:=(aX S.S.gi).trans (ah _)
   have hw6:c.ws.length<=6:=by rw [S.O.ro.length];exact S.O.gr.heads
   left
   refine ⟨sd,.ref c.gl,rfl,by rw [<- yb c.p c.q c.sg c.gl c.ll];exact xo.k (k:=.inr "grounds") S.S.sd,?_⟩
   left
   refine ⟨c.gl,_,rfl,.inl (SqL.of S.S.gl),?_⟩
   left
   refine ⟨L,b,_,rfl,S.B,⟨(),()⟩,λln H10 ln0 ln1 B10 X10=>?_⟩
   have S10:=S.take B10 X10
   left
   refine ⟨by show 2<=sizeLine;decide,λl11 H11 hl11 hl11' s11=>?_⟩
   have S11:=S10.same s11
   have l11b:l11≠b:=S10.B.ne hl11
   left
   refine ⟨L,b,_,rfl,S11.B,⟨⋯,⋯⟩,λv12 H12 p12 q12 B12 X12=>?_⟩
   have S12:=S11.take B12 X12
   obtain ⟨n,hn,n0,n1⟩:=WW p12 q12
   refine ⟨_,_,_,_,rfl,rfl,SqL.of (X12 _ _ hl11' l11b),hn,?_⟩
   left
   refine ⟨L,b,_,rfl,S12.B,⟨n0,()⟩,λv13 H13 p13 q13 B13 X13=>?_⟩
   have S13:=S12.take B13 X13
   left
   have hll:ln.toNat<c.lds.length:=by rw [S.O.ldl];omega
   obtain ⟨⟨a,ns⟩,ha⟩:∃z,c.lds[ln.toNat]? = some z:=⟨_,ae hll⟩
   refine ⟨sd,.ref c.ll,rfl,by rw [<- wo c.p c.q c.sg c.gl c.ll];exact xo.k (k:=.inr "leaps") S13.S.sd,?_⟩
   left
   refine ⟨_,_,_,_,rfl,rfl,SqL.of S13.S.ll,x3 ln0 (v:=V.ref a) (by rw [ax,ha];rfl),?_⟩
   left
   refine ⟨L,b,rfl,S13.B,λy H14 y0 y1 B14 X14=>?_⟩
   have S14:=S13.take B14 X14
   have hns:=hl _ (aw ha)
   refine ⟨a,_,rfl,vn.k (k:=.inl y) (S14.r2 _ (aw ha)) (by rw [ah];exact jj (by have:ns.length<=i:=hns;omega)),?_⟩
   have hns:ns.length<=i:=hns
   refine ⟨_,_,{ c with lds:=c.lds.set ln.toNat (a,xF ns y (1+v13)) },rfl,S14.leap ha y0 y1 () () (),λx hx=>?_⟩
   rcases uc S.O.nd ha hx with z | ⟨z,_⟩
   ·subst z
    exact aG (vQ _ _ _) ()
   ·exact Nat.le_succ_of_le (hl x z)
  ·rintro σ H2 ⟨x,y',c,rfl,S,hl⟩
   left
   exact k sd H2 c S.B S.X S.S S.O
theorem IceNew.made {C Pt p dx:Addr}{H H':Hp}{g:IceG}{o o':HO}(hp:H p=none) (hd:H dx=none) (I:IceNew C Pt (upd (upd H dx o) p o') H' p g):IceNew C Pt H H' p g:=by
 have s:jn H (upd (upd H dx o) p o'):=λc u h=>by rw [j6 (j1 h hp),j6 (j1 h hd)];exact h
 exact ⟨I.at_,λc u h n m=>I.keep c u (s c u h) n m,s.free I.va,s.free I.cy,s.free I.sl,s.free I.ye,s.free I.le,λa z=>s.free (I.zs a z),I.kvs,λx hx=>⟨s.free (I.lds x hx).1,(I.lds x hx).2⟩,I.ll,I.nd,I.ny,I.sl2⟩
structure IceFr (H:Hp) (p:Addr) (g:IceG):Prop where
 p:H p=none
 va:H g.va=none
 cy:H g.cy=none
 sl:H g.sl=none
 ye:H g.ye=none
 le:H g.le=none
 zs:∀a,V.ref a∈g.zs->H a=none
 lds:∀x∈g.lds,H x.1=none
theorem IceAt.stay {C p:Addr}{H H2 H3:Hp}{g:IceG}(I:IceAt C H2 p g) (F:IceFr H p g) (f:∀a o,H2 a=some o->H a=none->H3 a=some o) (t:jk H2 H3):IceAt C H3 p g :=
 ⟨f _ _ I.ob F.p,f _ _ I.va F.va,I.rs.keep t,f _ _ I.cy F.cy,I.rows.imp λ_ _ q=>t _ _ q,f _ _ I.sl F.sl,pmM I.slopes λv hv w ⟨a,ea,q⟩=>⟨a,ea,f _ _ q (F.zs a (ea ▸ hv))⟩,f _ _ I.ye F.ye,f _ _ I.le F.le,λx hx=>f _ _ (I.lds x hx) (F.lds x hx)⟩
theorem Fr3.ext {N M:Addr->Prop}{H H2 H3:Hp}{a:Addr}(f:Fr3 N M H H2) (e:Ext a H2 H3) (ha:H a=none):Fr3 N M H H3:=λc o h n=>by
 have ca:c≠a:=j1 h ha
 rcases f c o h n with q | ⟨m,ob,kvs,eo,q⟩
 ·exact .inl (e _ _ q ca)
 ·exact .inr ⟨m,ob,kvs,eo,e _ _ q ca⟩
theorem Fr3.same {N M:Addr->Prop}{H H2 H3:Hp}(f:Fr3 N M H H2) (e:jn H2 H3):Fr3 N M H H3:=λc o h n=>by
 rcases f c o h n with q | ⟨m,ob,kvs,eo,q⟩
 ·exact .inl (e _ _ q)
 ·exact .inr ⟨m,ob,kvs,eo,e _ _ q⟩
theorem Fr3.frz {N M:Addr->Prop}{H H2:Hp}{a:Addr}{ob:Obj}{kvs:List (Key×V)}(f:Fr3 N M H H2) (h:H2 a=some (.dK kvs)) (m:M a):Fr3 N M H (upd H2 a (.frz ob (.dK kvs))):=λc o hc n=>by
 by_cases e:c=a
 ·subst e
  rcases f c o hc n with q | ⟨_,ob',kvs',eo,q⟩
  ·rw [h] at q
   cases q
   exact .inr ⟨m,ob,kvs,rfl,j5⟩
  ·rw [h] at q
   cases q
 ·rw [j6 e]
  exact f c o hc n
theorem Y2 {H:Hp}{a:Addr}{ob:Obj}{kvs:List (Key×V)}(h:H a=some (.dK kvs)):jk H (upd H a (.frz ob (.dK kvs))):=λc xs q=>by rw [j6 (ji q h (by walk_at "z"))];exact q
theorem VP {H:Hp}{a Pt:Addr}{ob:Obj}{kvs:List (Key×V)}(T:qB H Pt) (h:H a=some (.dK kvs)):qB (upd H a (.frz ob (.dK kvs))) Pt:=by
 rcases T with q | ⟨c,q,q'⟩
 ·exact .inl (by rw [j6 (ji q h (by walk_at "z"))];exact q)
 ·exact .inr ⟨c,by rw [j6 (ji q h (by walk_at "z"))];exact q,by rw [j6 (ji q' h (by walk_at "z"))];exact q'⟩
theorem JO {H H':Hp}{a Pt:Addr}{kvs:List (Key×V)}(T:qB H Pt) (h:H a=some (.dK kvs)) (e:Ext a H H'):qB H' Pt:=by
 rcases T with q | ⟨c,q,q'⟩
 ·exact .inl (e _ _ q (ji q h (by walk_at "z")))
 ·exact .inr ⟨c,e _ _ q (ji q h (by walk_at "z")),e _ _ q' (ji q' h (by walk_at "z"))⟩
theorem Wa {ns:List (Int×Addr)}{i:Nat}{q:Key×V}(h:(ns.map kvA)[i]? = some q):∃z,ns[i]? = some z/\q=kvA z:=by
 rw [ax] at h
 cases e:ns[i]? with
 | none=>rw [e] at h;cases h
 | some z=>rw [e] at h;cases h;exact ⟨z,rfl,rfl⟩
theorem uq:∀{ns:List (Int×Addr)},(ns.map (·.1)).Nodup->∀{z:Int×Addr},z∈ns->jP (ns.map kvA) (.inl z.1)=some (.ref z.2)
 | [],_,z,h=>by cases h
 | q::r,nd,z,h=>by
  rw [aJ] at nd
  obtain ⟨h1,h2⟩:=List.nodup_cons.mp nd
  rw [aJ]
  rcases List.mem_cons.mp h with e | e
  ·subst e
   exact xc
  ·have ne:¬q.1=z.1:=λw=>h1 (by rw [w];exact bG e)
   show jP ((.inl q.1,.ref q.2)::r.map kvA) (.inl z.1)=_
   rw [jt (λw=>ne (dM w))]
   exact uq h2 e
theorem Yc {α:Type}{l:List (Int×α)}{y:Int}{a:α}(h:y∉l.map (·.1)):xF l y a=l++[(y,a)]:=by
 unfold xF
 rw [if_neg]
 intro z
 obtain ⟨u,hu,e⟩:=List.any_eq_true.mp z
 exact h (of_decide_eq_true e ▸ bG hu)
theorem QT {α:Type}{l:List (Int×α)}(nd:(l.map (·.1)).Nodup) {i:Nat}{z:Int×α}(h:l[i]? = some z):z.1∉(l.take i).map (·.1):=λm=>by
 obtain ⟨hi,e⟩:=List.getElem?_eq_some_iff.mp h
 obtain ⟨u,hu,eu⟩:=List.mem_map.mp m
 obtain ⟨j,hj,ej⟩:=List.mem_iff_getElem.mp hu
 rw [aM] at hj
 rw [oH] at ej
 have h1:(l.map (·.1))[j]'(by rw [ah];omega)=(l.map (·.1))[i]'(by rw [ah];exact hi):=by rw [dJ,dJ,ej,e,eu]
 exact absurd h1 (List.pairwise_iff_getElem.mp nd j i _ _ ())
theorem JW {α:Type}{f:α->V}{l:List (Int×α)}(nd:(l.map (·.1)).Nodup) {i:Nat}{z:Int×α}(h:l[i]? = some z):qt ((l.take i).map λz=>((.inl z.1,f z.2):Key×V)) (.inl z.1) (f z.2)=(l.take (i+1)).map λz=>((.inl z.1,f z.2):Key×V):=by
 rw [kG f,Yc (QT nd h),c3,h]
 rfl
structure LdN (g0:List (Addr×List (Key×V))) (cl:List (Addr×List (Int×Int))) (i n:Nat) (lds:List (Addr×List (Key×V))):Prop where
 fst:lds.map (·.1)=g0.map (·.1)
 at_:∀j x,lds[j]? = some x->∃y,cl[j]? = some y/\x.2=(if j<i then y.2 else if j=i then y.2.take n else []).map kvI
theorem LdN.len {g0 lds:List (Addr×List (Key×V))}{cl:List (Addr×List (Int×Int))}{i n:Nat}(h:LdN g0 cl i n lds):lds.length=g0.length:=by
 have:=congrArg mB h.fst
 rwa [ah,ah] at this
theorem LdN.next {g0 lds:List (Addr×List (Key×V))}{cl:List (Addr×List (Int×Int))}{i n:Nat}{y:Addr×List (Int×Int)}(h:LdN g0 cl i n lds) (hy:cl[i]? = some y) (hn:y.2.length<=n):LdN g0 cl (i+1) 0 lds:=⟨h.fst,λj x hx=>by
 obtain ⟨u,hu,e⟩:=h.at_ j x hx
 refine ⟨u,hu,?_⟩
 rw [e]
 by_cases a:j<i
 ·rw [if_pos a,if_pos ()]
 ·rw [if_neg a]
  by_cases b:j=i
  ·subst b
   rw [hy] at hu
   cases hu
   rw [if_pos rfl,if_pos (),d9 hn]
  ·rw [if_neg b,if_neg ()]
   split
   ·rfl
   ·rfl⟩
theorem LdN.put {g0 lds:List (Addr×List (Key×V))}{cl:List (Addr×List (Int×Int))}{i n:Nat}{y:Addr×List (Int×Int)}{z:Int×Int}{a:Addr}{kvs:List (Key×V)}(h:LdN g0 cl i n lds) (hy:cl[i]? = some y) (nd:(y.2.map (·.1)).Nodup) (hz:y.2[n]? = some z) (ha:lds[i]? = some (a,kvs)):LdN g0 cl i (n+1) (yu lds i (qt kvs (.inl z.1) (.int z.2))):=by
 obtain ⟨u,hu,e⟩:=h.at_ i _ ha
 rw [hy] at hu
 cases hu
 rw [if_neg (cu i),if_pos rfl] at e
 have e2:qt kvs (.inl z.1) (.int z.2)=(y.2.take (n+1)).map kvI:=by
  rw [show kvs=(y.2.take n).map kvI from e]
  exact JW (f:=V.int) nd hz
 refine ⟨?_,λj x hx=>?_⟩
 ·rw [<- h.fst]
  unfold yu
  rw [ak,ha]
  exact Zc ha
 ·unfold yu at hx
  rw [fP] at hx
  by_cases b:i=j
  ·subst b
   rw [if_pos rfl,if_pos (List.getElem?_eq_some_iff.mp ha).1] at hx
   cases hx
   exact ⟨y,hy,by rw [if_neg (cu i),if_pos rfl];exact e2⟩
  ·rw [if_neg b] at hx
   obtain ⟨u,hu,e⟩:=h.at_ j x hx
   refine ⟨u,hu,?_⟩
   rw [e]
   by_cases c:j<i
   ·rw [if_pos c,if_pos c]
   ·rw [if_neg c,if_neg c,if_neg (λq=>b q.symm),if_neg (λq=>b q.symm)]
theorem ScAt.fr {Pt sd:Addr}{H H':Hp}{c:ScN}(S:ScAt H sd c) (T:qB H Pt) (f:Fr3 (λa=>a=Pt) c.D H H'):ScAt H' sd c:=by
 obtain ⟨ps,hP⟩:=T.ne
 have n:∀{a:Addr} {o:HO},H a=some o->(∀ps,o≠.tbl ps)->¬a=Pt:=λh q=>ji h hP (q _)
 have nr:∀{a:Addr} {kvs:List (Key×V)},Rd H a (.dK kvs)->¬a=Pt:=λh=>by
  rcases h with h | ⟨o,h⟩
  ·exact n h (by walk_at "w")
  ·exact n h (by walk_at "w")
 exact S.keep f (λa xs h=>n h (by walk_at "w")) (n S.sd (by walk_at "w")) S.nD (n S.p (by walk_at "w")) (n S.q (by walk_at "w")) (n S.gl (by walk_at "w")) (n S.ll (by walk_at "w")) (λa h=>by
  obtain ⟨w,a',e,q⟩:=pm S.gi _ h
  cases e
  exact n q (by walk_at "w")) (nr S.sg) λx hx=>nr (S.ld x hx)
theorem ScAt.inD {H:Hp}{sd a:Addr}{c:ScN}(S:ScAt H sd c) (h:c.D a):∃o,H a=some o:=by
 have r:∃kvs,Rd H a (.dK kvs):=by
  rcases h with h | ⟨x,hx,e⟩
  ·exact ⟨_,h ▸ S.sg⟩
  ·exact ⟨_,e ▸ S.ld x hx⟩
 obtain ⟨_,r | ⟨o,r⟩⟩:=r
 ·exact ⟨_,r⟩
 ·exact ⟨_,r⟩
theorem YJ {a:Addr}{kvs:List (Key×V)}{o:Obj}{H H4:Hp}(f:Fz a kvs o H H4):jk H H4:=λc xs q=>by
 rcases f.2 with rfl | ⟨h,rfl⟩
 ·exact q
 ·exact Y2 h c xs q
theorem Gn {N M:Addr->Prop}{a:Addr}{kvs:List (Key×V)}{o:Obj}{H H2 H4:Hp}(f:Fz a kvs o H2 H4) (r:Fr3 N M H H2) (m:M a):Fr3 N M H H4:=by
 rcases f.2 with rfl | ⟨h,rfl⟩
 ·exact r
 ·exact r.frz h m
theorem UW {a Pt:Addr}{kvs:List (Key×V)}{o:Obj}{H H4:Hp}(f:Fz a kvs o H H4) (T:qB H Pt):qB H4 Pt:=by
 rcases f.2 with rfl | ⟨h,rfl⟩
 ·exact T
 ·exact VP T h
structure MdI (C Pt p:Addr) (c:ScN) (H H2:Hp) (g:IceG):Prop where
 I:IceAt C H2 p g
 F:IceFr H p g
 R:Fr3 (λa=>a=Pt) c.D H H2
 T:qB H2 Pt
theorem MdI.frz {C Pt p sd a:Addr}{c:ScN}{H H2 H4:Hp}{g:IceG}{kvs:List (Key×V)}{o:Obj}(M:MdI C Pt p c H H2 g) (S:ScAt H sd c) (h:c.D a) (f:Fz a kvs o H2 H4):MdI C Pt p c H H4 g:=by
 obtain ⟨_,ha⟩:=S.inD h
 exact ⟨M.I.stay M.F (λb u hb n=>f.at hb (j1 ha n).symm) (YJ f),M.F,Gn f M.R h,UW f M.T⟩
theorem MdI.same {C Pt p:Addr}{c:ScN}{H H2 H4:Hp}{g:IceG}(M:MdI C Pt p c H H2 g) (s:jn H2 H4):MdI C Pt p c H H4 g:=⟨M.I.same s,M.F,M.R.same s,M.T.same s⟩
theorem LdN.mem {g0 lds:List (Addr×List (Key×V))}{cl:List (Addr×List (Int×Int))}{i n:Nat}(h:LdN g0 cl i n lds) {x:Addr×List (Key×V)}(hx:x∈lds):∃y∈g0,y.1=x.1:=by
 have:x.1∈g0.map (·.1):=h.fst ▸ bG hx
 obtain ⟨y,hy,e⟩:=List.mem_map.mp this
 exact ⟨y,hy,e⟩
noncomputable def YY (C Pt:Addr):Sp:=λvs H Q _=>∃(sd b:Addr) (c:ScN),vs=[.ref sd]/\ScAt H sd c/\ScOk b c/\qB H Pt /\
 ∀p H' g,IceAt C H' p g->IceFr H p g->Fr3 (λa=>a=Pt) c.D H H'->qB H' Pt->g.rs=c.rs->g.rows=c.ts->g.slopes=c.ws.map (jc c.rs)->g.kvs=c.sk.map kvA->g.lds.length=c.lds.length->(∀(l:Nat) x,g.lds[l]? = some x->∃y,c.lds[l]? = some y/\x.2=y.2.map kvI)->(∀x∈g.lds,x.1≠g.ye)->(g.lds.map (·.1)).Nodup->Q (.ref p) H'
theorem xp:FnScope ["_law_scene_here","_law_ice","_law_year_here","_law_lane","_law_leaps"] ["_law_scene_here"] (j8 vv):=by walk_at "s"
theorem Vt {f C CV CR CN CY CW CS Pt:Addr}{fd:FuncData}(nb:Nb2 mg) (cl_Ice:Cls K C) (c_Ice:MakX P w K mg base 8 C "Ice" ["self","reaches","rows"] (Yu C CV CR Pt)) (c_Ice__tell:CalMX P w K mg base 2 C "tell" ["self","year","row"] (Yz C CY CW)) (c_Ice__surge:CalMX P w K mg base 2 C "surge" ["self","lane","year","many"] (XN C CN CY CS)) (F:Fun K "_law_made" "_law_made" vv f fd):FnOk P w K mg base CX0 10 f fd ["_law_scene_here"] (YY C Pt):=by
 refine F.ok xp (λvs H Q E h=>?_) (λcdv A outer s H vs Q E hr h=>?_)
 ·obtain ⟨sd,b,c,rfl,_⟩:=h
  rfl
 ·obtain ⟨sd,b,c,rfl,S,O,T,k⟩:=h
  refine ⟨_,(j4 (jx 1 xp.nd (VM c_Ice (hr.mono ⋯) Jg rfl (j0 (qH (qz K) rfl nb.b_list bQ (j0 (jI (jQ hr) (pv 0) jB (λ_ _=>rfl)) j2)) (j0 (qH (qz K) rfl nb.b_list bQ (j0 (jI (jQ hr) (pv 0) jB (λ_ _=>rfl)) j2)) j2))))
   (j4 (qv aW rfl (w9 (jI (jQ hr) (pv 0) jB (λ_ _=>rfl))) (jb (i:=2) xp.nd rfl (aP rfl)) (j9 (jY (zR (pv 1) cl_Ice c_Ice__tell (hr.mono ⋯) Jg (j0 (pv 2) (j0 (jI (jQ hr) (jI (jQ hr) (pv 0) jB (λ_ _=>rfl)) (pv 2) (λ_ _=>rfl)) j2))))))
   (j4 (qv aW rfl (J8 K rfl nb.b_enumerate (j0 (jI (jQ hr) (pv 0) jB (λ_ _=>rfl)) j2)) (qx (n:=2) K rfl (jo (jb (i:=3) xp.nd rfl (aP rfl)) (jo (jb (i:=4) xp.nd rfl (aP rfl)) qw))) (j9 (qv aW rfl (w9 (pv 4)) (jb (i:=2) xp.nd rfl (aP rfl)) (j9 (jY (zR (pv 1) cl_Ice c_Ice__surge (hr.mono ⋯) Jg (j0 (pv 3) (j0 (pv 2) (j0 (jI (jQ hr) (pv 4) (pv 2) (λ_ _=>rfl)) j2)))))))))
   (j9 (jm (pv 1)))))),?_⟩
  left
  refine ⟨sd,.ref c.p,rfl,by rw [<- QM c.p c.q c.sg c.gl c.ll];exact xo.k (k:=.inr "reaches") S.sd,?_⟩
  refine ⟨_,_,rfl,.inl (SqL.of S.p),λl1 H1 hl1 hl11 s1=>?_⟩
  have S1:=S.same s1
  left
  refine ⟨sd,.ref c.q,rfl,by rw [<- J6 c.p c.q c.sg c.gl c.ll];exact xo.k (k:=.inr "rows") S1.sd,?_⟩
  refine ⟨_,_,rfl,.inl (SqL.of S1.q),λl2 H2 hl2 hl22 s2=>?_⟩
  have S2:=S1.same s2
  have s12:=s1.trans s2
  left
  intro p dx hp hd hdp
  have s3:jn H2 (upd (upd H2 dx (.own p)) p (.ins C dx [])):=λc u h=>by rw [j6 (j1 h hp),j6 (j1 h hd)];exact h
  have S3:=S2.same s3
  have egr:gr c.ts=true:=by
   have:=O.t1
   have:=O.t2
   unfold gr
   rw [decide_eq_true (),O.tg]
   rfl
  have eg:=O.gr.good O.l1 O.l8
  refine ⟨p,dx,l1,l2,c.xs,c.ys,c.rs,c.ts,rfl,j5,s3 _ _ (s2 _ _ hl11),S3.rv,s3 _ _ hl22,S3.r3,λr hr=>aG (XO O.gr r hr) ⋯,aG O.l8 ⋯,aG O.t2 ⋯,(T.same s12).same s3,λH4 g _ _ I e1 e2 e3 e4 T4=>?_,(λH' z _ _=>by rw [eg] at z;cases z),(λH' _ z _ _=>by rw [egr] at z;cases z)⟩
  have I:=I.made hp hd
  obtain ⟨ws,hR,esl⟩:=I.sl2
  rw [e1] at hR esl
  obtain rfl:=hR.unique O.ro
  have F4:IceFr H p g:=⟨s12.free hp,s12.free I.va,s12.free I.cy,s12.free I.sl,s12.free I.ye,s12.free I.le,λa z=>s12.free (I.zs a z),λx hx=>s12.free (I.lds x hx).1⟩
  have M4:MdI C Pt p c H H4 g:=⟨I.at_,F4,λa o h n=>.inl (I.keep a o (s12 _ _ h) (j1 h F4.p) n),T4⟩
  have ll4:g.lds.length=c.lds.length:=by rw [I.ll,esl,ah,O.ldl]
  have nd4:=I.nd
  have ny4:=I.ny
  have kv4:=I.kvs
  have ld4:∀x∈g.lds,x.2=[]:=λx hx=>(I.lds x hx).2
  clear I S3 s3 S2 hl22 hl11 S1 T4
  refine ⟨rfl,?_⟩
  have S4:=S.fr T M4.R
  left
  refine ⟨sd,.ref c.sg,rfl,by rw [<- zN c.p c.q c.sg c.gl c.ll];exact xo.k (k:=.inr "single") S4.sd,?_⟩
  have hsgD:c.D c.sg:=.inl rfl
  refine uj (kvs:=c.sk.map kvA) S4.sg (λo i σ H5=>∃x:Option V,σ=[some (.ref sd),some (.ref p),x,none,none]/\H5 c.sg=some (.frz o (.dK (c.sk.map kvA)))/\MdI C Pt p c H H5 { g with kvs:=(c.sk.take i).map kvA }) ?_ ?_ ?_ ?_
  ·intro o H5 f5
   refine ⟨none,rfl,f5.1,?_⟩
   have:=M4.frz S hsgD f5
   have e:g={ g with kvs:=(c.sk.take 0).map kvA }:=by
    show g={ g with kvs:=[] }
    rw [<- kv4]
   rw [<- e]
   exact this
  ·rintro o i σ H5 hi ⟨x,rfl,h5,M5⟩
   exact h5
  ·rintro o i u σ H5 hq ⟨x,rfl,h5,M5⟩
   obtain ⟨z,hz,rfl⟩:=Wa hq
   have hm:=aw hz
   have hi:i<c.sk.length:=(List.getElem?_eq_some_iff.mp hz).1
   have h10:=O.k3
   have S5:=S.fr T M5.R
   obtain ⟨r,hr3,hgr⟩:=S5.sk z hm
   obtain ⟨y0,y1⟩:=O.k2 z hm
   show vE 2 (V.int z.1) _ _ _
   left
   refine ⟨p,g.dx,_,rfl,M5.I.ob,qJ ∅,?_⟩
   left
   refine ⟨sd,.ref c.sg,rfl,by rw [<- zN c.p c.q c.sg c.gl c.ll];exact xo.k (k:=.inr "single") S5.sd,?_⟩
   left
   refine ⟨c.sg,.ref z.2,rfl,(by rw [<- uq O.k1 hm];exact .inl ⟨_,.inl z.1,.inr ⟨o,h5⟩,rfl,rfl⟩),?_⟩
   refine ⟨p,z.2,_,z.1,r,rfl,M5.I,ny4,hr3,(by rw [ah,aM];omega),λH6 _ _ _ X6 I6=>?_,λhb=>absurd hb (),λ_ _ hb=>by rw [hgr] at hb;cases hb⟩
   have e:qt ((c.sk.take i).map kvA) (.inl z.1) (.ref z.2)=(c.sk.take (i+1)).map kvA:=JW (f:=V.ref) O.k1 hz
   obtain ⟨_,hsg0⟩:=S.inD hsgD
   refine ⟨_,rfl,X6 _ _ h5 (j1 hsg0 F4.ye),?_⟩
   rw [<- e]
   exact ⟨I6,⟨F4.p,F4.va,F4.cy,F4.sl,F4.ye,F4.le,F4.zs,F4.lds⟩,M5.R.ext X6 F4.ye,JO M5.T M5.I.ye X6⟩
  ·rintro o σ H5 ⟨x,rfl,h5,M5⟩
   rw [ah,aZ] at M5
   have S5:=S.fr T M5.R
   left
   refine ⟨sd,.ref c.ll,rfl,by rw [<- wo c.p c.q c.sg c.gl c.ll];exact xo.k (k:=.inr "leaps") S5.sd,?_⟩
   left
   refine ⟨⟨_,SqL.of S5.ll⟩,?_⟩
   refine JA (K:=K) (a:=c.ll) (xs:=c.lds.map λx=>V.ref x.1) (λi σ H6=>∃(x y z:Option V) (lds:List (Addr×List (Key×V))),σ=[some (.ref sd),some (.ref p),x,y,z]/\MdI C Pt p c H H6 { g with kvs:=c.sk.map kvA,lds:=lds }/\LdN g.lds c.lds i 0 lds) ?_ ?_ ?_ ?_
   ·refine ⟨x,none,none,g.lds,rfl,M5,rfl,λj x hx=>?_⟩
    have hj:=(List.getElem?_eq_some_iff.mp hx).1
    obtain ⟨y,hy⟩:∃y,c.lds[j]? = some y:=⟨_,ae ()⟩
    refine ⟨y,hy,?_⟩
    rw [ld4 x (aw hx),if_neg (pM _)]
    split <;> rfl
   ·rintro i σ H6 hi ⟨x,y,z,lds,rfl,M6,L6⟩
    exact SqL.of (S.fr T M6.R).ll
   ·rintro i v σ H6 t hv ⟨x,y,z,lds,rfl,M6,L6⟩ ht
    rw [ax] at hv
    obtain ⟨⟨a,ns⟩,hy,ev⟩:=Option.map_eq_some_iff.mp hv
    subst ev
    have M7:=M6.same (jn.new (o:=.tup [.int i,.ref a]) ht)
    left
    refine ⟨t,_,rfl,SqT.of j5,rfl,?_⟩
    refine ⟨_,_,rfl,_,_,rfl,rfl,?_⟩
    left
    clear M6
    generalize upd H6 t (.tup [.int i,.ref a])=H7 at *
    have S7:=S.fr T M7.R
    have hm:=aw hy
    have haD:c.D a:=.inr ⟨_,hm,rfl⟩
    obtain ⟨_,ha0⟩:=S.inD haD
    refine uj (kvs:=ns.map kvI) (S7.ld _ hm) (λo n σ H8=>∃(x:Option V) (lds:List (Addr×List (Key×V))),σ=[some (.ref sd),some (.ref p),x,some (.int i),some (.ref a)]/\H8 a=some (.frz o (.dK (ns.map kvI)))/\MdI C Pt p c H H8 { g with kvs:=c.sk.map kvA,lds:=lds }/\LdN g.lds c.lds i n lds) ?_ ?_ ?_ ?_
    ·intro o H8 f8
     exact ⟨x,lds,rfl,f8.1,M7.frz S haD f8,L6⟩
    ·rintro o n σ H8 hn ⟨x,lds,rfl,h8,M8,L8⟩
     exact h8
    ·clear L6 M7 S7
     rintro o n u σ H8 hq ⟨x,lds,rfl,h8,M8,L8⟩
     obtain ⟨z,hz,rfl⟩:=Vq hq
     have hzm:=aw hz
     obtain ⟨y0,y1,m0,m1⟩:=O.m2 _ hm z hzm
     have hl8:=L8.len
     have hi8:i<lds.length:=by
      have:=(List.getElem?_eq_some_iff.mp hy).1
      omega
     have hsl:g.slopes.length=lds.length:=by rw [esl,ah,hl8,ll4,O.ldl]
     show vE 2 (V.int z.1) _ _ _
     left
     refine ⟨p,g.dx,_,rfl,M8.I.ob,qJ ∅,?_⟩
     left
     refine ⟨a,.int z.2,rfl,(by rw [<- ut (O.m1 _ hm) hzm,<- yO ns z.1 (bG hzm)];exact .inl ⟨_,.inl z.1,.inr ⟨o,h8⟩,rfl,rfl⟩),?_⟩
     refine ⟨p,_,(i:Int),z.1,z.2,rfl,M8.I,hsl.symm,(λx hx=>by obtain ⟨y,hy,e⟩:=L8.mem hx;rw [<- e];exact ny4 y hy),(by show (lds.map (·.1)).Nodup;rw [L8.fst];exact nd4),(λx hx=>?_),λH9 a9 kvs9 _ _ _ _ _ _ ha9 X9 I9=>?_,(λhb=>absurd hb (by show ¬((i:Int)<0\/(g.slopes.length:Int)<=i);omega)),(λ_ _ hb=>absurd hb ()),λ_ _ _ _ hb=>absurd hb ()⟩
     ·obtain ⟨j,hj,ex⟩:=List.mem_iff_getElem.mp hx
      obtain ⟨y,hy,e⟩:=L8.at_ j x (by rw [ae hj,ex])
      have h10:=O.m3 y (aw hy)
      rw [e,ah]
      split
      ·omega
      ·split
       ·rw [aM];omega
       ·exact aE _
     ·have ha9:lds[i]? = some (a9,kvs9):=ha9
      have L9:=L8.put hy (O.m1 _ hm) hz ha9
      have a90:H a9=none:=M8.F.lds _ (aw ha9)
      refine ⟨_,_,rfl,X9 _ _ h8 (j1 ha0 a90),⟨I9,⟨F4.p,F4.va,F4.cy,F4.sl,F4.ye,F4.le,F4.zs,λx hx=>?_⟩,M8.R.ext X9 a90,JO M8.T (M8.I.lds _ (aw ha9)) X9⟩,L9⟩
      obtain ⟨y,hy,e⟩:=L9.mem hx
      rw [<- e]
      exact F4.lds y hy
    ·rintro o σ H8 ⟨x,lds,rfl,h8,M8,L8⟩
     exact ⟨x,_,_,lds,rfl,M8,L8.next hy (by rw [ah];exact ao _)⟩
   ·rintro σ H6 ⟨x,y,z,lds,rfl,M6,L6⟩
    left
    refine k p H6 _ M6.I M6.F M6.R M6.T e1 e2 esl rfl (L6.len.trans ll4) (λl x hx=>?_) (λx hx=>?_) (by show (lds.map (·.1)).Nodup;rw [L6.fst];exact nd4)
    ·obtain ⟨y,hy,e⟩:=L6.at_ l x hx
     refine ⟨y,hy,?_⟩
     rw [e,if_pos (by rw [ah];exact (List.getElem?_eq_some_iff.mp hy).1)]
    ·obtain ⟨y,hy,e⟩:=L6.mem hx
     rw [<- e]
     exact ny4 y hy
theorem uQ {rs:List Rch}(h:zr rs=true):1<=rs.length/\rs.length<=8/\uD rs=true/\∀ws,jX rs ws->∀w∈ws,(jc rs w).length<=30:=by
 unfold zr at h
 rw [aY,aY,aY] at h
 obtain ⟨h1,h2,_,h4⟩:=h
 have h1:=of_decide_eq_true h1
 refine ⟨(),(),h2,λws hR w hw=>?_⟩
 obtain ⟨x,hx,e⟩:=hR.mem hw
 have:=of_decide_eq_true (List.all_eq_true.mp h4 x hx)
 have g:=kq rs w
 rw [<- e] at this
 omega
theorem wd {rs:List Rch}(G:Grown rs) {ws:List (List Int)}(R:jX rs ws) {w:List Int}(hw:w∈ws):1<=(jc rs w).length:=by
 obtain ⟨x,hx,e⟩:=R.mem hw
 have hl:=xD hx
 have o:=gY G.ok (ae hl)
 unfold okR at o
 rw [aY,aY] at o
 have o:=of_decide_eq_true o.1.2
 have eh:zA rs ((x:Int)).toNat=(rs[x]'hl).2:=by
  unfold zA
  rw [bw,ak,ae hl]
  rfl
 rw [e,zt (qe G.ok) hl]
 unfold jc
 rw [aJ,lp,aq,eh]
 omega
theorem VI {L b Pt:Addr}{Ha Hb:Hp}(B:qi L Ha b) (e:Ext b Ha Hb) (T:qB Ha Pt):qB Hb Pt:=by
 obtain ⟨ns,a,r,c,d,h1,_⟩:=B
 exact T.ext h1 e
structure Lw (C L b sd p:Addr) (c:ScN) (g:IceG) (H0 H:Hp):Prop where
 B:qi L H b
 S:ScAt H sd c
 I:IceAt C H p g
 O:ScOk b c
 F:IceFr H0 p g
 B0:qi L H0 b
 S0:ScAt H0 sd c
theorem Lw.same {C L b sd p:Addr}{c:ScN}{g:IceG}{H0 H H':Hp}(W:Lw C L b sd p c g H0 H) (s:jn H H'):Lw C L b sd p c g H0 H':=⟨W.B.same s,W.S.same s,W.I.same s,W.O,W.F,W.B0,W.S0⟩
theorem Lw.take {C L b sd p:Addr}{c:ScN}{g:IceG}{H0 H H':Hp}(W:Lw C L b sd p c g H0 H) (B:qi L H' b) (X:Ext b H H'):Lw C L b sd p c g H0 H' :=
 ⟨B,W.S.ext W.O W.B X,W.I.stay W.F (λa o h n=>X a o h (W.B0.ne n)) (zW W.B X),W.O,W.F,W.B0,W.S0⟩
theorem Lw.fr {C L b sd p:Addr}{c:ScN}{g:IceG}{H0 H H':Hp}(W:Lw C L b sd p c g H0 H) (f:FrM c.D H H'):Lw C L b sd p c g H0 H':=by
 refine ⟨?_,?_,W.I.stay W.F (λa o h n=>?_) (λa xs h=>f.at h (by walk_at "w")),W.O,W.F,W.B0,W.S0⟩
 ·obtain ⟨ns,a,r,c,d,h1,h2,h3,h4⟩:=W.B
  exact ⟨ns,a,r,c,d,f.at h1 (by walk_at "w"),h2,f.at h3 (by walk_at "w"),h4⟩
 ·exact W.S.keep (N:=λ_=>False) (λc o h _=>f c o h) (λ_ _ _ z=>z) id W.S.nD id id id id (λ_ _=>id) id (λ_ _=>id)
 ·rcases f a o h with z | ⟨m,_⟩
  ·exact z
  ·obtain ⟨_,q⟩:=W.S0.inD m
   rw [n] at q
   cases q
theorem Lw.start {C L b sd p Pt:Addr}{c:ScN}{g:IceG}{H2 H3:Hp}(S2:ScAt H2 sd c) (O:ScOk b c) (B2:qi L H2 b) (T2:qB H2 Pt) (I3:IceAt C H3 p g) (F3:IceFr H2 p g) (R3:Fr3 (λa=>a=Pt) c.D H2 H3):Lw C L b sd p c g H2 H3:=by
 refine ⟨?_,S2.fr T2 R3,I3,O,F3,B2,S2⟩
 obtain ⟨ps,hP⟩:=T2.ne
 obtain ⟨ns,a,r,c,d,h1,h2,h3,h4⟩:=B2
 exact ⟨ns,a,r,c,d,R3.at h1 (ji h1 hP (by walk_at "z")) (by walk_at "w"),h2,R3.at h3 (ji h3 hP (by walk_at "z")) (by walk_at "w"),h4⟩
structure Lk (c:ScN) (g:IceG):Prop where
 rs:g.rs=c.rs
 rows:g.rows=c.ts
 sl:g.slopes=c.ws.map (jc c.rs)
 kv:g.kvs=c.sk.map kvA
 ll:g.lds.length=c.lds.length
 ld:∀(l:Nat) x,g.lds[l]? = some x->∃y,c.lds[l]? = some y/\x.2=y.2.map kvI
 ny:∀x∈g.lds,x.1≠g.ye
 nd:(g.lds.map (·.1)).Nodup
structure LaneF (c:ScN) (g:IceG) (ln:Int) (wy:List Int) (da:Addr) (dn:List (Int×Int)):Prop where
 way:c.ws[ln.toNat]? = some wy
 sl:g.slopes.getD ln.toNat []=jc c.rs wy
 g1:1<=(jc c.rs wy).length
 g30:(jc c.rs wy).length<=30
 cd:c.lds[ln.toNat]? = some (da,dn)
 D:c.D da
 nd:(dn.map (·.1)).Nodup
 b:∀q∈dn,0<=q.1/\q.1<=99/\1<=q.2/\q.2<=9
 l10:dn.length<=10
 at_:Yb g ln dn
 l0:0<=ln
 l1:ln<(g.slopes.length:Int)
theorem Lk.lane {b:Addr}{c:ScN}{g:IceG}(k:Lk c g) (O:ScOk b c) {ln:Int}(h0:0<=ln) (h1:ln<(c.ws.length:Int)):∃wy da dn,LaneF c g ln wy da dn:=by
 have hi:ln.toNat<c.ws.length:=()
 have hwy:=ae hi
 have hgs:g.slopes[ln.toNat]? = some (jc c.rs (c.ws[ln.toNat]'hi)):=by rw [k.sl,ax,hwy];rfl
 have hl:g.slopes.length=c.ws.length:=by rw [k.sl,ah]
 obtain ⟨⟨da,dn⟩,hda⟩:∃z,c.lds[ln.toNat]? = some z:=⟨_,ae (by rw [O.ldl];omega)⟩
 have hdm:=aw hda
 obtain ⟨⟨da2,dk⟩,hda2⟩:∃z,g.lds[ln.toNat]? = some z:=⟨_,ae (by rw [k.ll,O.ldl];omega)⟩
 obtain ⟨_,q1,q2⟩:=k.ld _ _ hda2
 rw [hda] at q1
 cases q1
 obtain rfl:dk=dn.map kvI:=q2
 have hm:=bU hi
 have h10:dn.length<=10:=O.m3 _ hdm
 exact ⟨_,da,dn,hwy,by rw [ak,hgs];rfl,wd O.gr O.ro hm,(uQ (O.gr.good O.l1 O.l8)).2.2.2 c.ws O.ro _ hm,hda,.inr ⟨_,hdm,rfl⟩,O.m1 _ hdm,O.m2 _ hdm,h10,⟨h0,(),⟨da2,hda2⟩,O.m1 _ hdm,(),λq hq=>by have:=O.m2 _ hdm q hq;omega⟩,h0,()⟩
theorem LaneF.pos {c:ScN}{g:IceG}{ln:Int}{wy:List Int}{da:Addr}{dn:List (Int×Int)}(L:LaneF c g ln wy da dn):∀q∈dn,0<=q.1/\0<=q.2:=λq hq=>by have:=L.b q hq;omega
theorem wQ {ns:List (Int×Int)}(h:∀q∈ns,0<=q.2) {y z:Int}(yz:y<=z):jf ns y<=jf ns z:=by
 induction ns with
 | nil=>exact mP _
 | cons q r ih =>
  rw [jV,jV]
  have a:=h q (aH ..)
  have b:=ih λz hz=>h z (aD _ hz)
  by_cases e:q.1<=y
  ·rw [if_pos e,if_pos ()];omega
  ·rw [if_neg e]
   split <;> omega
theorem xk {ns ms:List (Int×Int)}(p:ms.Perm ns) (s:(ms.map (·.1)).Pairwise (· <= ·)) (nd:(ns.map (·.1)).Nodup) (h:∀q∈ns,0<=q.1/\0<=q.2) (one len y:Int) (hy:0<=y):(0<=y+jf ns y-one/\y+jf ns y-one<len)↔(ja 0 0 ms one<=y/\y<ja 0 0 ms (one+len)):=by
 have hm:∀q∈ms,0<=q.1/\0<=q.2:=λq hq=>h q (p.mem_iff.mp hq)
 have ndm:(ms.map (·.1)).Nodup:=(p.map (·.1)).nodup_iff.mpr nd
 have st:=xA s ndm
 have key:∀goal:Int,(goal<=y+jf ns y↔ja 0 0 ms goal<=y):=λgoal=>by
  have:=kX ms 0 0 goal y hm st hy
  rw [qR p,Int.add_zero] at this
  exact this
 have a:=key one
 have b:=key (one+len)
 constructor
 ·rintro ⟨c,d⟩
  refine ⟨a.mp (),?_⟩
  have:=mt b.mpr ()
  omega
 ·rintro ⟨c,d⟩
  have a':=a.mpr c
  have b':=mt b.mp ()
  omega
theorem qM {ns ms:List (Int×Int)}(p:ms.Perm ns) (s:(ms.map (·.1)).Pairwise (· <= ·)) (h:∀q∈ns,0<=q.1/\0<=q.2) (goal:Int):0<=ja 0 0 ms goal:=wT ms 0 0 goal (λq hq=>(h q (p.mem_iff.mp hq)).1) s
theorem Z7 {ns ms:List (Int×Int)}(p:ms.Perm ns) (s:(ms.map (·.1)).Pairwise (· <= ·)) (nd:(ns.map (·.1)).Nodup) (h:∀q∈ns,0<=q.1/\0<=q.2) (one len:Int) (hl:ja 0 0 ms one<ja 0 0 ms (one+len)):ja 0 0 ms (one+len)-1-ja 0 0 ms one<len:=by
 have f0:=qM p s h one
 have a:=(xk p s nd h one len _ f0).mpr ⟨mP _,hl⟩
 have b:=(xk p s nd h one len (ja 0 0 ms (one+len)-1) ()).mpr ⟨(),()⟩
 have m:=wQ (λq hq=>(h q hq).2) (y:=ja 0 0 ms one) (z:=ja 0 0 ms (one+len)-1) ()
 omega
noncomputable def chg (t:T3) (h:Int):Int:=if t.1<=h then t.2.1 else-t.2.2
noncomputable def Qi:Sp:=λvs H Q _=>∃(p:Addr) (t:T3) (h:Int),vs=[.ref p,.int h]/\H p=some (yd t)/\Q (.int (chg t h)) H
theorem yM:FnScope ["row","height","line","snow","sun"] ["row","height"] (j8 wF):=by walk_at "s"
theorem Zz {f:Addr}{fd:FuncData}(F:Fun K "change" "change" wF f fd):FnOk P w K mg base CX0 1 f fd ["row","height"] Qi:=by
 refine F.ok yM (λvs H Q E h=>?_) (λcdv A outer s H vs Q E hr h=>?_)
 ·obtain ⟨p,t,h,rfl,_⟩:=h
  rfl
 ·obtain ⟨p,t,h,rfl,hp,k⟩:=h
  unfold chg at k
  refine ⟨_,(j4 (zh (pv 0) (qx (n:=3) K rfl (jo (jb (i:=2) yM.nd rfl (aP rfl)) (jo (jb (i:=3) yM.nd rfl (aP rfl)) (jo (jb (i:=4) yM.nd rfl (aP rfl)) qw)))))
   (j4 (qc (jD V0 (pv 1) (pv 2) (jK _)) (j9 (jm (pv 3))) jw)
   (j9 (jm (wm ve (pv 4)))))),?_⟩
  left
  refine ⟨p,_,rfl,SqT.of hp,rfl,?_⟩
  refine ⟨_,_,rfl,_,_,rfl,_,_,rfl,rfl,?_⟩
  left
  refine qO (λh1=>?_) (λh1=>?_)
  ·left
   rw [if_pos h1] at k
   exact k
  ·left
   rw [if_neg h1] at k
   exact k
noncomputable def Vb:Sp:=λvs H Q _=>∃(p:Addr) (t:T3) (h:Int),vs=[.ref p,.int h]/\H p=some (yd t)/\Q (.int (chg t h)) H
theorem Qw:FnScope ["_law_row_here","_law_height"] ["_law_row_here","_law_height"] (j8 vw):=by walk_at "s"
theorem Up {f:Addr}{fd:FuncData}(F:Fun K "_law_wish" "_law_wish" vw f fd):FnOk P w K mg base CX0 1 f fd ["_law_row_here","_law_height"] Vb:=by
 refine F.ok Qw (λvs H Q E h=>?_) (λcdv A outer s H vs Q E hr h=>?_)
 ·obtain ⟨p,t,h,rfl,_⟩:=h
  rfl
 ·obtain ⟨p,t,h,rfl,hp,k⟩:=h
  unfold chg at k
  have hp:H p=some (.tup [.int t.1,.int t.2.1,.int t.2.2]):=hp
  refine ⟨_,(j4 (qc (jD yU (pv 1) (js (qC K) (pv 0) j7 (λ_ _=>rfl)) (jK _)) (j9 (jm (jr qI j7 (js (qC K) (pv 0) j7 (λ_ _=>rfl))))) jw)
   (j9 (jm (js (qC K) (pv 0) j7 (λ_ _=>rfl))))),?_⟩
  left
  refine qO (λh1=>?_) (λh1=>?_)
  ·left
   rw [if_neg (),show-t.2.2=0-t.2.2 by omega] at k
   exact k
  ·left
   rw [if_pos ()] at k
   exact k
noncomputable def zD (H:Hp) (sk:List (Int×Addr)) (wr:List (Int×T3)):Prop:=cO (λ(z:Int×Addr) (q:Int×T3)=>z.1=q.1/\H z.2=some (yd q.2)) sk wr
theorem zD.keep {H H':Hp}{sk:List (Int×Addr)}{wr:List (Int×T3)}(h:zD H sk wr) (t:jk H H'):zD H' sk wr:=Paired.mapP h λ_ _ ⟨e,q⟩=>⟨e,t _ _ q⟩
theorem zD.of {H:Hp}:∀{sk:List (Int×Addr)},(∀z∈sk,∃t,H z.2=some (yd t)/\good t=true)->∃wr,zD H sk wr
 | [],_=>⟨[],.nil⟩
 | z::r,h=>by
  obtain ⟨t,ht,_⟩:=h z (aH ..)
  obtain ⟨wr,hw⟩:=zD.of (sk:=r) λu hu=>h u (aD _ hu)
  exact ⟨(z.1,t)::wr,.cons ⟨rfl,ht⟩ hw⟩
noncomputable def zg (wr:List (Int×T3)) (ts:List T3) (y:Int):T3 :=
 match wr.find? λq=>decide (q.1=y) with
 | some q=>q.2
 | none=>ts.getD (y % (ts.length:Int)).toNat (0,0,0)
theorem wu {H:Hp}:∀{sk:List (Int×Addr)}{wr:List (Int×T3)},zD H sk wr->∀y:Int,
  (∃a q,jP (sk.map kvA) (.inl y)=some (.ref a)/\(wr.find? λq=>decide (q.1=y))=some q/\H a=some (yd q.2))\/(jP (sk.map kvA) (.inl y)=none/\(wr.find? λq=>decide (q.1=y))=none)
 | _,_,.nil,y=>.inr ⟨rfl,rfl⟩
 | z::sk,q::wr,.cons ⟨e,h⟩ r,y=>by
  rw [aJ]
  by_cases c:z.1=y
  ·subst c
   exact .inl ⟨z.2,q,xc,by rw [dX (by rw [decide_eq_true e.symm])],h⟩
  ·have e1:jP (kvA z::sk.map kvA) (.inl y)=jP (sk.map kvA) (.inl y):=jt λw=>c (dM w)
   have e2:((q::wr).find? λq=>decide (q.1=y))=wr.find? λq=>decide (q.1=y):=dY (by rw [decide_eq_false (by rw [<- e];exact c)];exact ar)
   rw [e1,e2]
   exact wu r y
theorem YK {H:Hp}{ys:List V}{ts:List T3}(r:jG H ys ts) (h1:1<=ts.length) (y:Int):∃a,atI ys (y % (ys.length:Int))=some (.ref a)/\H a=some (yd (ts.getD (y % (ts.length:Int)).toNat (0,0,0))):=by
 have hl:ys.length=ts.length:=r.length
 have n0:(0:Int)<ts.length:=()
 have m0:=eA y (show (ts.length:Int)≠0 by omega)
 have m1:=dq y n0
 have hi:(y % (ts.length:Int)).toNat<ys.length:=()
 obtain ⟨t,ht,a,ea,ha⟩:=r.get (ae hi)
 refine ⟨a,?_,?_⟩
 ·rw [hl]
  exact x3 m0 (by rw [ae hi,ea])
 ·rw [ak,ht]
  exact ha
noncomputable def UD (C:Addr):Sp:=λvs H Q _=>∃(p:Addr) (g:IceG) (y:Int) (sk:List (Int×Addr)) (wr:List (Int×T3)),vs=[.ref p,.int y]/\IceAt C H p g/\g.kvs=sk.map kvA/\zD H sk wr/\1<=g.rows.length/\g.rows.length<=1000/\∀t,H t=some (yd (zg wr g.rows y))->Q (.ref t) H
theorem Q8:FnScope ["self","year"] ["self","year"] (j8 vc):=by walk_at "s"
theorem Q9 {f C:Addr}{fd:FuncData}(nb:Nb2 mg) (T:IceC K C) (F:Fun K "sky" "Ice.sky" vc f fd):FnOk P w K mg base CX0 1 f fd ["self","year"] (UD C):=by
 refine F.ok Q8 (λvs H Q E h=>?_) (λcdv A outer s H vs Q E hr h=>?_)
 ·obtain ⟨p,g,y,sk,wr,rfl,_⟩:=h
  rfl
 ·obtain ⟨p,g,y,sk,wr,rfl,I,ek,hw,h1,h2,k⟩:=h
  have hye:H g.ye=some (.dK (sk.map kvA)):=by rw [<- ek];exact I.ye
  obtain ⟨ra,hra,hrow⟩:=YK I.rows h1 y
  refine ⟨_,(j9 (jm (kg (jQ hr) (xi K (pv 0)) (pv 1) (js (jd K) (xi K (pv 0)) (jr xV (pv 1) (je (jh K) rfl nb.b_len aV (j0 (xi K (pv 0)) j2))) (λ_ _=>rfl)) ⟨rfl,rfl,rfl,rfl⟩))),?_⟩
  left
  refine ⟨p,C,g.dx,_,_,rfl,I.ob,T.cl,T.nY,wV _ _ _ _ _,?_⟩
  left
  refine ⟨.inl ⟨_,.inl hye⟩,?_⟩
  left
  refine ⟨p,C,g.dx,_,_,rfl,I.ob,T.cl,T.nC,wU _ _ _ _ _,?_⟩
  left
  refine ⟨p,C,g.dx,_,_,rfl,I.ob,T.cl,T.nC,wU _ _ _ _ _,?_⟩
  left
  refine ⟨g.cy,_,rfl,.inl (SqL.of I.cy),?_⟩
  have hl:g.ys.length=g.rows.length:=I.rows.length
  left
  refine ⟨_,_,_,_,rfl,rfl,SqL.of I.cy,hra,?_⟩
  rcases wu hw y with ⟨a,q,e1,e2,h⟩ | ⟨e1,e2⟩
  ·refine ⟨some (.ref a),by rw [<- e1];exact xo.k (k:=.inl y) hye,?_⟩
   exact k a (by unfold zg;rw [e2];exact h)
  ·refine ⟨none,by rw [<- e1];exact xo.k (k:=.inl y) hye,?_⟩
   exact k ra (by unfold zg;rw [e2];exact hrow)
noncomputable def Ys:Sp:=λvs H Q _=>∃(sd:Addr) (c:ScN) (y:Int) (wr:List (Int×T3)),vs=[.ref sd,.int y]/\ScAt H sd c/\zD H c.sk wr/\1<=c.ts.length/\c.ts.length<=1000/\∀t,H t=some (yd (zg wr c.ts y))->Q (.ref t) H
theorem QJ:FnScope ["_law_scene_here","_law_year_here"] ["_law_scene_here","_law_year_here"] (j8 uz):=by walk_at "s"
theorem Wg {f:Addr}{fd:FuncData}(nb:Nb2 mg) (F:Fun K "_law_row" "_law_row" uz f fd):FnOk P w K mg base CX0 1 f fd ["_law_scene_here","_law_year_here"] Ys:=by
 refine F.ok QJ (λvs H Q E h=>?_) (λcdv A outer s H vs Q E hr h=>?_)
 ·obtain ⟨sd,c,y,wr,rfl,_⟩:=h
  rfl
 ·obtain ⟨sd,c,y,wr,rfl,S,hw,h1,h2,k⟩:=h
  refine ⟨_,(j4 (qc (WA (US (jQ hr) (pv 1) (jI (jQ hr) (pv 0) jB (λ_ _=>rfl))) (by with_unfolding_all rfl)) (j9 (jm (jI (jQ hr) (jI (jQ hr) (pv 0) jB (λ_ _=>rfl)) (pv 1) (λ_ _=>rfl)))) jw)
   (j9 (jm (js (jd K) (jI (jQ hr) (pv 0) jB (λ_ _=>rfl)) (jr xV (pv 1) (je (jh K) rfl nb.b_len aV (j0 (jI (jQ hr) (pv 0) jB (λ_ _=>rfl)) j2))) (λ_ _=>rfl))))),?_⟩
  obtain ⟨ra,hra,hrow⟩:=YK S.r3 h1 y
  left
  refine ⟨sd,.ref c.sg,rfl,by rw [<- zN c.p c.q c.sg c.gl c.ll];exact xo.k (k:=.inr "single") S.sd,?_⟩
  rcases wu hw y with ⟨a,q,e1,e2,h⟩ | ⟨e1,e2⟩
  ·refine ⟨c.sg,some (.ref a),rfl,.inl ⟨_,.inl y,S.sg,rfl,e1.symm⟩,?_⟩
   left
   refine ⟨sd,.ref c.sg,rfl,by rw [<- zN c.p c.q c.sg c.gl c.ll];exact xo.k (k:=.inr "single") S.sd,?_⟩
   left
   refine ⟨c.sg,.ref a,rfl,.inl ⟨_,.inl y,S.sg,rfl,e1.symm⟩,?_⟩
   exact k a (by unfold zg;rw [e2];exact h)
  ·refine ⟨c.sg,none,rfl,.inl ⟨_,.inl y,S.sg,rfl,e1.symm⟩,?_⟩
   have hl:c.ys.length=c.ts.length:=S.r3.length
   left
   refine ⟨sd,.ref c.q,rfl,by rw [<- J6 c.p c.q c.sg c.gl c.ll];exact xo.k (k:=.inr "rows") S.sd,?_⟩
   left
   refine ⟨sd,.ref c.q,rfl,by rw [<- J6 c.p c.q c.sg c.gl c.ll];exact xo.k (k:=.inr "rows") S.sd,?_⟩
   left
   refine ⟨c.q,_,rfl,.inl (SqL.of S.q),?_⟩
   left
   refine ⟨_,_,_,_,rfl,rfl,SqL.of S.q,hra,?_⟩
   exact k ra (by unfold zg;rw [e2];exact hrow)
noncomputable abbrev Q4:=Int×Int×Int×Int
noncomputable abbrev tup4 (q:Q4):HO:=.tup [.int q.1,.int q.2.1,.int q.2.2.1,.int q.2.2.2]
noncomputable def ym (H:Hp) (out:List V) (qs:List Q4):Prop:=cO (λv (q:Q4)=>∃b,v=V.ref b/\H b=some (tup4 q)) out qs
theorem ym.keep {H H':Hp}{out:List V}{qs:List Q4}(h:ym H out qs) (t:jk H H'):ym H' out qs:=Paired.mapP h λ_ _ ⟨b,e,q⟩=>⟨b,e,t _ _ q⟩
noncomputable def plc (ns:List (Int×Int)) (m y:Int):Int:=y+jf ns y-m
noncomputable def xT (ns:List (Int×Int)) (gd:List Int) (wr:List (Int×T3)) (ts:List T3) (m y:Int):Int:=chg (zg wr ts y) (gd.getD (plc ns m y).toNat 0)
noncomputable def x5 (ns:List (Int×Int)) (gd:List Int) (wr:List (Int×T3)) (ts:List T3) (m fst:Int):Nat->Int
 | 0=>0
 | i+1=>x5 ns gd wr ts m fst i+(if xT ns gd wr ts m (fst+(i:Int)) > - x5 ns gd wr ts m fst i then xT ns gd wr ts m (fst+(i:Int)) else-x5 ns gd wr ts m fst i)
noncomputable def qL (ns:List (Int×Int)) (gd:List Int) (wr:List (Int×T3)) (ts:List T3) (m fst:Int) (i:Nat):Q4 :=
 (fst+(i:Int),plc ns m (fst+(i:Int)),(if xT ns gd wr ts m (fst+(i:Int)) > - x5 ns gd wr ts m fst i then xT ns gd wr ts m (fst+(i:Int)) else-x5 ns gd wr ts m fst i),x5 ns gd wr ts m fst (i+1))
noncomputable def k9 (ns:List (Int×Int)) (gd:List Int) (wr:List (Int×T3)) (ts:List T3) (m fst:Int) (n:Nat):List Q4:=(aF n).map (qL ns gd wr ts m fst)
noncomputable def qg (ms:List (Int×Int)) (gd:List Int) (wr:List (Int×T3)) (ts:List T3) (m:Int):List Q4:=k9 ms gd wr ts m (ja 0 0 ms m) (ja 0 0 ms (m+(gd.length:Int))-ja 0 0 ms m).toNat
theorem Xr (ns:List (Int×Int)) (gd:List Int) (wr:List (Int×T3)) (ts:List T3) (m fst:Int) (n:Nat):k9 ns gd wr ts m fst (n+1)=k9 ns gd wr ts m fst n++[qL ns gd wr ts m fst n]:=by
 unfold k9
 rw [cj,aA]
 rfl
theorem uN:∀{xs ys:List (Int×Int)},xs.Perm ys->(xs.map (·.1)).Pairwise (· < ·)->(ys.map (·.1)).Pairwise (· < ·)->xs=ys
 | [],ys,p,_,_=>p.nil_eq
 | x::r,[],p,_,_=>absurd p.length_eq (by simp)
 | x::r,y::t,p,hx,hy=>by
  rw [aJ,fi] at hx hy
  have e:x=y:=by
   rcases List.mem_cons.mp (p.mem_iff.mpr (aH (a:=y) (l:=t))) with e | e
   ·exact e.symm
   ·rcases List.mem_cons.mp (p.mem_iff.mp (aH (a:=x) (l:=r))) with e2 | e2
    ·exact e2
    ·have a:=hx.1 _ (bG e)
     have b:=hy.1 _ (bG e2)
     omega
  subst e
  rw [uN (nM p) hx.2 hy.2]
theorem yT {ns ms os:List (Int×Int)}(nd:(ns.map (·.1)).Nodup) (p:ms.Perm ns) (s:(ms.map (·.1)).Pairwise (· <= ·)) (q:os.Perm ns) (t:(os.map (·.1)).Pairwise (· <= ·)):os=ms :=
 uN (q.trans p.symm) (xA t ((q.map (·.1)).nodup_iff.mpr nd)) (xA s ((p.map (·.1)).nodup_iff.mpr nd))
theorem wz:∀{ns:List (Int×Int)},(ns.map (·.1)).Nodup->∀y:Int,jf ns (y+1)=jf ns y+qQ ns (y+1)
 | [],_,y=>rfl
 | q::r,nd,y=>by
  rw [aJ] at nd
  obtain ⟨h1,h2⟩:=List.nodup_cons.mp nd
  have ih:=wz h2 y
  rw [jV,jV]
  unfold qQ
  by_cases e:q.1=y+1
  ·have z:qQ r (y+1)=0:=by
    have:∀{l:List (Int×Int)} {y:Int},y∉l.map (·.1)->qQ l y=0:=λ{l}=>by
     induction l with
     | nil=>intro _ _;rfl
     | cons a t ih2 =>
      intro y hy
      rw [aJ,eE,not_or] at hy
      unfold qQ
      rw [if_neg (λz=>hy.1 z.symm)]
      exact ih2 hy.2
    exact this (by rw [<- e];exact h1)
   rw [if_pos e,if_pos (),if_neg ()]
   omega
  ·rw [if_neg e]
   by_cases l:q.1<=y
   ·rw [if_pos l,if_pos ()];omega
   ·rw [if_neg l,if_neg ()];omega
theorem gj:∀(ns:List (Int×Int)) (y:Int),(jP (ns.map kvI) (.inl y)).getD (.int 0) = .int (qQ ns y)
 | [],y=>rfl
 | q::r,y=>by
  rw [aJ]
  unfold qQ
  by_cases e:q.1=y
  ·subst e
   rw [if_pos rfl,show jP (kvI q::r.map kvI) (.inl q.1)=some (.int q.2) from xc]
   rfl
  ·rw [if_neg e,show jP (kvI q::r.map kvI) (.inl y)=jP (r.map kvI) (.inl y) from jt λw=>e (dM w)]
   exact gj r y
noncomputable def Y9 (C CN:Addr):Sp:=λvs H Q E=>∃(p:Addr) (g:IceG) (l m:Int) (sk:List (Int×Addr)) (wr:List (Int×T3)),vs=[.ref p,.int l,.int m]/\IceAt C H p g/\g.lds.length=g.slopes.length/\g.kvs=sk.map kvA/\zD H sk wr/\1<=g.rows.length/\g.rows.length<=1000 /\
 (∀H',jn H H'->l<0\/(g.slopes.length:Int)<=l->E (.ref CN) none H') /\
 (0<=l->l<(g.slopes.length:Int)->∃ns ms,Yb g l ns/\(∀q∈ns,0<=q.1)/\(g.slopes.getD l.toNat []).length<=100/\ms.Perm ns/\(ms.map (·.1)).Pairwise (· <= ·) /\
  ∀o H' out,H o=none->H' o=some (.lst out)->ym H' out (qg ms (g.slopes.getD l.toNat []) wr g.rows m)->jn H H'->Q (.ref o) H')
theorem qW:FnScope ["ice","lane","mark","years","first","last","surges","leaps","place","rows","lying","year","moved"] ["ice","lane","mark"] (j8 QF):=by walk_at "s"
theorem VH {f C CN CP:Addr}{fd:FuncData}(nb:Nb2 mg) (b_dict:mg "dict" = none) (cl_Ice:Cls K C) (c_span:CalX P w K mg base 3 "span" ["ice","lane","mark"] (V8 C CN)) (c_Ice__surges:CalMX P w K mg base 2 C "surges" ["self","lane"] (yN C CN)) (c_ride_by:Cal P w K mg base 1 "ride_by" ["surges","year"] wZ)
  (c_change:Cal P w K mg base 1 "change" ["row","height"] Qi) (c_Ice__sky:CalM P w K mg base 1 C "sky" ["self","year"] (UD C)) (c_Ice__height:CalMX P w K mg base 3 C "height" ["self","lane","place"] (gx C CN CP))
  (F:Fun K "life" "life" QF f fd):FnOk P w K mg base (CX1 P w) 4 f fd ["ice","lane","mark"] (Y9 C CN):=by
 refine Fun.okX F qW (λvs H Q E h=>?_) (λcdv A outer s H vs Q E hr h=>?_)
 ·obtain ⟨p,g,l,m,sk,wr,rfl,_⟩:=h
  rfl
 ·obtain ⟨p,g,l,m,sk,wr,rfl,I,hll,ek,hw,hr1,hr2,kx,k⟩:=h
  refine ⟨_,(j4 (jx 3 qW.nd (xW c_span (hr.mono ⋯) qE rfl (j0 (pv 0) (j0 (pv 1) (j0 (pv 2) j2)))))
   (j4 (qc (jD Xz (pv 3) Js (jK _)) (j9 (jm (jZ j2))) jw)
   (j4 (zh (pv 3) (qx (n:=2) K rfl (jo (jb (i:=4) qW.nd rfl (aP rfl)) (jo (jb (i:=5) qW.nd rfl (aP rfl)) qw))))
   (j4 (jx 6 qW.nd (zR (pv 0) cl_Ice c_Ice__surges (hr.mono ⋯) qE (j0 (pv 1) j2)))
   (j4 (jx 7 qW.nd (qH (QS K rfl) rfl b_dict PyProof.Rows.boot_dict (j0 (pv 6) j2)))
   (j4 (jx 8 qW.nd (jr qI (jg c_ride_by (hr.mono ⋯) rfl (j0 (pv 6) (j0 (pv 4) j2))) (pv 2)))
   (j4 (jx 9 qW.nd (jZ j2))
   (j4 (jx 10 qW.nd j7)
   (j4 (V3 (qv aW rfl (Y1 rfl nb.b_range (j0 (pv 4) (j0 (jr jN (pv 5) j7) j2))) (jb (i:=11) qW.nd rfl (aP rfl)) (j4 (jx 12 qW.nd (je (zU rfl) rfl nb.b_max oK (j0 (wm ve (pv 10)) (j0 (jg c_change (hr.mono ⋯) rfl (j0 (pe_m (pv 0) cl_Ice c_Ice__sky (hr.mono ⋯) (j0 (pv 11) j2)) (j0 (zR (pv 0) cl_Ice c_Ice__height (hr.mono ⋯) Jg (j0 (pv 1) (j0 (pv 8) j2))) j2))) j2))))
   (j4 (QI (i:=10) qW.nd rfl (aP rfl) (pv 12) Xk)
   (j4 (jY (y3 K bz bD bE qA (pv 9) (j0 (qK (j0 (pv 11) (j0 (pv 8) (j0 (pv 12) (j0 (pv 10) j2))))) j2)))
   (j9 (QI (i:=8) qW.nd rfl (aP rfl) (jr jN j7 (kg (jQ hr) (pv 7) (jr jN (pv 11) j7) j7 ⟨rfl,rfl,rfl,rfl⟩)) Xk)))))))
   (j9 (jm (pv 9)))))))))))),?_⟩
  left
  refine ⟨p,g,l,m,rfl,I,hll,kx,λl0 l1=>?_⟩
  obtain ⟨ns,ms,⟨_,_,⟨a,ha⟩,nd,h64,h9⟩,hp0,g100,hp,hs,k⟩:=k l0 l1
  have hpos:∀q∈ns,0<=q.1/\0<=q.2:=λq hq=>⟨hp0 q hq,(h9 q hq).1⟩
  refine ⟨a,ns,ha,nd,h64,λos hos hss fst gon e1 e2=>?_⟩
  obtain rfl:=yT nd hp hs hos hss
  clear hos hss
  refine ⟨λhlt t H1 s1 ht1=>?_,λhlt H1 s1=>?_⟩
  ·have hn:(gon-1+1-fst).toNat=(gon-fst).toNat:=()
   have on:=λw hw=>xk hp hs nd hpos m (g.slopes.getD l.toNat []).length w hw
   have f0:=qM hp hs hpos m
   have spl:=Z7 hp hs nd hpos m (g.slopes.getD l.toNat []).length (by rw [<- e1,<- e2];exact hlt)
   unfold qg at k
   rw [<- e1,<- e2] at k spl
   rw [<- e1] at f0
   rw [<- e1,<- e2] at on
   have sper:=λy=>qR hp y
   have ndm:(os.map (·.1)).Nodup:=(hp.map (·.1)).nodup_iff.mpr nd
   have h9m:∀q∈os,0<=q.2/\q.2<=9:=λq hq=>h9 q (hp.mem_iff.mp hq)
   have hlm:os.length<64:=by rw [hp.length_eq];exact h64
   clear e1 e2
   generalize hgd:g.slopes.getD l.toNat []=gd at *
   left
   refine ⟨t,_,rfl,SqT.of ht1,rfl,?_⟩
   refine ⟨_,_,rfl,_,_,rfl,rfl,?_⟩
   left
   refine ⟨p,g.dx,_,rfl,s1 _ _ I.ob,qJ ∅,?_⟩
   left
   refine ⟨p,g,l,rfl,I.same s1,hll,(λhb=>absurd hb ()),λ_ _=>⟨a,ns,ha,nd,h64,λso H2 out ms2 hso hso2 hq2 s2 hp2 hs2=>?_⟩⟩
   obtain rfl:=yT nd hp hs hp2 hs2
   left
   refine ⟨so,out,ms2,rfl,SqL.of hso2,hq2,ndm,(),λd H3 hd hd3 s3=>?_⟩
   have hd3:H3 d=some (.dK (ms2.map kvI)):=hd3
   left
   refine ⟨so,out,ms2,fst,rfl,s3 _ _ hso2,kF.same hq2 s3,(),h9m,λH4 s4=>?_⟩
   left
   refine ⟨aE _,λrw_ H5 hrw hrw5 s5=>?_⟩
   have S4:jn H H4:=((s1.trans s2).trans s3).trans s4
   have d4:=s4 _ _ hd3
   have rw0:H rw_=none:=S4.free hrw
   left
   refine ⟨_,_,rfl,?_⟩
   refine qU (λi σ H6=>∃(x y:Option V) (out6:List V),σ=[some (.ref p),some (.int l),some (.int m),some (.ref t),some (.int fst),some (.int (gon-1)),some (.ref so),some (.ref d),some (.int (plc ms2 m (fst+(i:Int)))),some (.ref rw_),some (.int (x5 ms2 gd wr g.rows m fst i)),x,y]/\H6 rw_=some (.lst out6)/\out6.length=i/\ym H6 out6 (k9 ms2 gd wr g.rows m fst i)/\Ext rw_ H4 H6) ?_ ?_ ?_
   ·refine ⟨none,none,[],?_,hrw5,rfl,.nil,λc o hc _=>s5 _ _ hc⟩
    rw [show fst+((0:Nat):Int)=fst by omega]
    rfl
   ·rintro i σ H6 hi ⟨x,y,out6,rfl,h6,hl6,r6,e6⟩
    rw [hn] at hi
    have y0:0<=fst+(i:Int):=()
    have onp:=(on _ y0).mpr ⟨(),()⟩
    rw [<- sper] at onp
    have onp:0<=plc ms2 m (fst+(i:Int))/\plc ms2 m (fst+(i:Int))<(gd.length:Int):=onp
    have s6:jn H4 H6:=λc o hc=>e6 c o hc (j1 hc hrw)
    have I6:=I.same (S4.trans s6)
    have hw6:zD H6 sk wr:=hw.keep (jk.same (S4.trans s6))
    left
    refine ⟨p,g.dx,_,rfl,I6.ob,qJ ∅,?_⟩
    left
    refine ⟨p,g,fst+(i:Int),sk,wr,rfl,I6,ek,hw6,hr1,hr2,λtr htr=>?_⟩
    left
    refine ⟨p,g.dx,_,rfl,I6.ob,qJ ∅,?_⟩
    left
    refine ⟨p,g,l,plc ms2 m (fst+(i:Int)),rfl,I6,λ_ _ _ _=>?_,(λhb=>absurd hb ()),λ_ _ hb=>absurd hb (by rw [hgd];omega)⟩
    rw [hgd]
    left
    refine ⟨tr,_,_,rfl,htr,?_⟩
    left
    refine ⟨_,_,rfl,?_⟩
    left
    refine ⟨.inl ⟨rfl,_,SqL.of h6⟩,?_⟩
    left
    refine ⟨by show 4<=sizeLine;decide,λtq H7 htq htq7 s7=>?_⟩
    refine ⟨_,_,_,rfl,rfl,s7 _ _ h6,jj (),?_⟩
    have d7:upd H7 rw_ (.lst (out6++[.ref tq])) d=some (.dK (ms2.map kvI)):=by rw [j6 (j1 d4 hrw)];exact s7 _ _ (s6 _ _ d4)
    have tqr:tq≠rw_:=(j1 h6 htq).symm
    left
    refine ⟨.inl ⟨_,.inl d7⟩,?_⟩
    left
    refine ⟨_,xo.k (k:=.inl (fst+(i:Int)+1)) d7,?_⟩
    rw [gj]
    left
    have epl:plc ms2 m (fst+((i+1:Nat):Int))=plc ms2 m (fst+(i:Int))+(1+qQ ms2 (fst+(i:Int)+1)):=by
     have:=wz ndm (fst+(i:Int))
     rw [show fst+((i+1:Nat):Int)=fst+(i:Int)+1 by omega]
     unfold plc
     omega
    refine ⟨_,_,out6++[.ref tq],by rw [epl];rfl,j5,by rw [aq,hl6];rfl,?_,λc o hc n=>by rw [j6 n];exact s7 _ _ (e6 c o hc n)⟩
    rw [Xr]
    exact cP (r6.keep λa xs q=>by rw [j6 (ji (s7 _ _ q) (s7 _ _ h6) (by walk_at "z"))];exact s7 _ _ q) ⟨tq,rfl,by rw [j6 tqr];exact htq7⟩
   ·rintro σ H6 ⟨x,y,out6,rfl,h6,hl6,r6,e6⟩
    rw [hn] at r6
    left
    exact k rw_ H6 out6 rw0 h6 r6 (S4.trans λc o hc=>e6 c o hc (j1 hc hrw))
  ·have hz:(gon-fst).toNat=0:=()
   unfold qg at k
   rw [<- e1,<- e2,hz] at k
   left
   refine ⟨aE _,λo H2 ho ho2 s2=>?_⟩
   exact k o H2 [] (s1.free ho) ho2 .nil (s1.trans s2)
theorem U3 (xs:List V) (k:Nat):uV xs none (some (k:Int))=xs.take k:=by
 unfold uV
 rw [HT.sIx_none,HT.sIx_nat,rX,oO]
 by_cases h:k<=xs.length
 ·rw [pT h]
 ·rw [px (),d9 (ao _)]
  exact (d9 ()).symm
theorem Zl (xs:List V) (k:Nat):uV xs (some (k:Int)) none=xs.drop k:=by
 unfold uV
 rw [HT.sIx_none,HT.sIx_nat]
 by_cases h:k<=xs.length
 ·rw [pT h]
  exact d9 (by rw [eQ];omega)
 ·rw [px (),m8 (ao _),List.take_nil]
  exact (m8 ()).symm
theorem ym.drop {H:Hp}:∀(n:Nat) {out:List V}{qs:List Q4},ym H out qs->ym H (out.drop n) (qs.drop n)
 | 0,_,_,r=>r
 | _+1,_,_,.nil=>.nil
 | n+1,_,_,.cons _ r=>ym.drop n r
theorem wx {ms:List (Int×Int)}{gd:List Int}{wr:List (Int×T3)}{ts:List T3}{m:Int}{i:Nat}(h:i<(ja 0 0 ms (m+(gd.length:Int))-ja 0 0 ms m).toNat):(qg ms gd wr ts m)[i]? = some (qL ms gd wr ts m (ja 0 0 ms m) i):=by
 unfold qg k9
 rw [ax,cZ h]
 rfl
theorem vm (ms:List (Int×Int)) (gd:List Int) (wr:List (Int×T3)) (ts:List T3) (m:Int):(qg ms gd wr ts m).length=(ja 0 0 ms (m+(gd.length:Int))-ja 0 0 ms m).toNat:=by
 unfold qg k9
 rw [ah,bg]
noncomputable def JU (C CN CP CY:Addr):Sp:=λvs H Q E=>∃(p:Addr) (g:IceG) (l n y:Int) (sk:List (Int×Addr)) (wr:List (Int×T3)),vs=[.ref p,.int l,.int n,.int y]/\IceAt C H p g/\g.lds.length=g.slopes.length/\g.kvs=sk.map kvA/\zD H sk wr/\1<=g.rows.length/\g.rows.length<=1000 /\
 (l<0\/(g.slopes.length:Int)<=l->E (.ref CN) none H)/\(0<=l->l<(g.slopes.length:Int)->n<0\/((g.slopes.getD l.toNat []).length:Int)<=n->E (.ref CP) none H) /\
 (0<=l->l<(g.slopes.length:Int)->0<=n->n<((g.slopes.getD l.toNat []).length:Int)->∃ns ms,Yb g l ns/\(∀q∈ns,0<=q.1)/\(g.slopes.getD l.toNat []).length<=100/\ms.Perm ns/\(ms.map (·.1)).Pairwise (· <= ·)/\(∀H',jn H H'->y<0\/10 ^ 40<y->E (.ref CY) none H') /\
  (0<=y->y<=10 ^ 40->∀t a1 a2 out H',H t=none->H a1=none->H a2=none->H' t=some (.tup [.ref a1,.ref a2])->H' a1=some (.lst (out.take (y-ja 0 0 ms (y+jf ns y-n)).toNat))->H' a2=some (.lst (out.drop (y-ja 0 0 ms (y+jf ns y-n)).toNat))->ym H' out (qg ms (g.slopes.getD l.toNat []) wr g.rows (y+jf ns y-n))->jn H H'->Q (.ref t) H'))
theorem uu:FnScope ["ice","lane","place","year","rows","lived"] ["ice","lane","place","year"] (j8 wB):=by walk_at "s"
theorem ZU {f C CN CP CY:Addr}{fd:FuncData}(cl_Ice:Cls K C) (c_Ice__check_place:CalMX P w K mg base 2 C "check_place" ["self","lane","place"] (yg C CN CP)) (c_ridden:CalX P w K mg base 3 "ridden" ["ice","lane","year"] (JF C CN CY)) (c_life:CalX P w K mg base 4 "life" ["ice","lane","mark"] (Y9 C CN))
  (F:Fun K "parted" "parted" wB f fd):FnOk P w K mg base (CX1 P w) 5 f fd ["ice","lane","place","year"] (JU C CN CP CY):=by
 refine Fun.okX F uu (λvs H Q E h=>?_) (λcdv A outer s H vs Q E hr h=>?_)
 ·obtain ⟨p,g,l,n,y,sk,wr,rfl,_⟩:=h
  rfl
 ·obtain ⟨p,g,l,n,y,sk,wr,rfl,I,hll,ek,hw,hr1,hr2,kl,kp,k⟩:=h
  refine ⟨_,(j4 (jY (zR (pv 0) cl_Ice c_Ice__check_place (hr.mono ⋯) qE (j0 (pv 1) (j0 (pv 2) j2))))
   (j4 (jx 4 uu.nd (xW c_life (hr.mono ⋯) qE rfl (j0 (pv 0) (j0 (pv 1) (j0 (jr qI (xW c_ridden (hr.mono ⋯) qE rfl (j0 (pv 0) (j0 (pv 1) (j0 (pv 3) j2)))) (pv 2)) j2)))))
   (j4 (jx 5 uu.nd (jr qI (pv 3) (js (qC K) (js (jd K) (pv 4) j7 (λ_ _=>rfl)) j7 (λ_ _=>rfl))))
   (j9 (jm (qK (j0 (vG (hW K) (pv 4) wc (w5 (pv 5))) (j0 (vG (hW K) (pv 4) (w5 (pv 5)) wc) j2)))))))),?_⟩
  left
  refine ⟨p,g.dx,_,rfl,I.ob,qJ ∅,?_⟩
  left
  refine ⟨p,g,l,n,rfl,I,λl0 l1 n0 n1=>?_,λhb=>kl hb,λl0 l1 hb=>kp l0 l1 hb⟩
  obtain ⟨ns,ms,hL,hp0,g100,hp,hs,ky,k⟩:=k l0 l1 n0 n1
  have hpos:∀q∈ns,0<=q.1/\0<=q.2:=λq hq=>⟨hp0 q hq,(hL.2.2.2.2.2 q hq).1⟩
  have nd:(ns.map (·.1)).Nodup:=hL.2.2.2.1
  left
  refine ⟨p,g,l,y,rfl,I,hll,(λhb=>absurd hb ()),λ_ _=>⟨ns,hL,ky,λH1 s1 y0 y1=>?_⟩⟩
  have k:=k y0 y1
  have e0:y+jf ns y-(y+jf ns y-n)=n:=()
  have onm:=(xk hp hs nd hpos (y+jf ns y-n) (g.slopes.getD l.toNat []).length y y0).mp (by rw [e0];exact ⟨n0,n1⟩)
  have hlo:=vm ms (g.slopes.getD l.toNat []) wr g.rows (y+jf ns y-n)
  have hg0:=wx (ms:=ms) (gd:=g.slopes.getD l.toNat []) (wr:=wr) (ts:=g.rows) (m:=y+jf ns y-n) (i:=0) ()
  obtain ⟨m,em⟩:∃m,y+jf ns y-n=m:=⟨_,rfl⟩
  rw [em] at k onm hlo hg0
  left
  refine ⟨p,g,l,m,sk,wr,by rw [<- em],I.same s1,hll,ek,hw.keep (jk.same s1),hr1,hr2,(λH' _ hb=>absurd hb ()),λ_ _=>⟨ns,ms,hL,hp0,g100,hp,hs,λo H2 out ho ho2 r2 s2=>?_⟩⟩
  have hol:out.length=(qg ms (g.slopes.getD l.toNat []) wr g.rows m).length:=aX r2
  have h0:0<out.length:=()
  obtain ⟨q0,hq0,b0,ev0,hb0⟩:=Paired.get r2 (ae h0)
  rw [hg0] at hq0
  have eq0:q0.1=ja 0 0 ms m:=by
   cases hq0
   show ja 0 0 ms m+((0:Nat):Int)=_
   omega
  have hb0:H2 b0=some (.tup [.int q0.1,.int q0.2.1,.int q0.2.2.1,.int q0.2.2.2]):=hb0
  left
  refine ⟨_,_,_,_,rfl,rfl,SqL.of ho2,x3 ⋯ (v:=V.ref b0) (by show out[0]? = _;rw [ae h0,ev0]),?_⟩
  left
  have ek2:y-q0.1=(((y-ja 0 0 ms m).toNat:Nat):Int):=by rw [eq0];omega
  refine ⟨_,_,rfl,SqL.of ho2,λa1 H3 ha1 ha13 s3=>?_⟩
  left
  refine ⟨_,_,rfl,SqL.of (s3 _ _ ho2),λa2 H4 ha2 ha24 s4=>?_⟩
  have ha13:H3 a1=some (.lst (out.take (y-ja 0 0 ms m).toNat)):=by rw [ha13,<- U3,<- ek2]
  have ha24:H4 a2=some (.lst (out.drop (y-ja 0 0 ms m).toNat)):=by rw [ha24,<- Zl,<- ek2]
  left
  refine ⟨by show 2<=sizeLine;decide,λt H5 ht ht5 s5=>?_⟩
  have t2:=s1.trans s2
  have t3:=t2.trans s3
  exact k t a1 a2 out H5 ((t3.trans s4).free ht) (t2.free ha1) (t3.free ha2) ht5 (s5 _ _ (s4 _ _ ha13)) (s5 _ _ ha24) (r2.keep (jk.same (s3.trans (s4.trans s5)))) (t3.trans (s4.trans s5))
section
variable {L:List Q4}{dp mv pl:Nat->Int}{fst:Int}{n:Nat}
structure Col (L:List Q4) (dp mv pl:Nat->Int) (fst:Int) (n:Nat):Prop where
 len:L.length=n
 at_:∀i,i<n->L[i]? = some (fst+(i:Int),pl i,mv i,dp (i+1))
 step:∀i,dp (i+1)=dp i+mv i
end
theorem wY (ms:List (Int×Int)) (gd:List Int) (wr:List (Int×T3)) (ts:List T3) (m:Int):Col (qg ms gd wr ts m) (x5 ms gd wr ts m (ja 0 0 ms m)) (λi=>(qL ms gd wr ts m (ja 0 0 ms m) i).2.2.1) (λi=>plc ms m (ja 0 0 ms m+(i:Int))) (ja 0 0 ms m) (ja 0 0 ms (m+(gd.length:Int))-ja 0 0 ms m).toNat :=
 ⟨vm _ _ _ _ _,λi hi=>wx hi,λi=>rfl⟩
theorem kI (ns:List (Int×Int)):∃ms:List (Int×Int),ms.Perm ns/\(ms.map (·.1)).Pairwise (· <= ·):=by
 refine ⟨ns.mergeSort (λa b=>decide (a.1<=b.1)),List.mergeSort_perm _ _,?_⟩
 rw [List.pairwise_map]
 exact (List.pairwise_mergeSort (λa b c h1 h2=>by simp at *;omega) (λa b=>by simp;omega) ns).imp λh=>by simpa using h
theorem zD.good {H:Hp}:∀{sk:List (Int×Addr)}{wr:List (Int×T3)},zD H sk wr->(∀z∈sk,∃t,H z.2=some (yd t)/\good t=true)->∀q∈wr,good q.2=true
 | _,_,.nil,_,q,hq=>by cases hq
 | z::r,x::t,.cons ⟨_,h⟩ tl,g,q,hq=>by
  rcases List.mem_cons.mp hq with e | e
  ·subst e
   obtain ⟨u,hu,gu⟩:=g z (aH ..)
   rw [h] at hu
   have:yd q.2=yd u:=aO hu
   have e1:q.2.1=u.1:=by injection this with this;injection this with a b;exact V.int.inj a
   have e2:q.2.2.1=u.2.1:=by injection this with this;injection this with a b;injection b with b c;exact V.int.inj b
   have e3:q.2.2.2=u.2.2:=by injection this with this;injection this with a b;injection b with b c;injection c with c d;exact V.int.inj c
   rw [show q.2=u from sO e1 (sO e2 e3)]
   exact gu
  ·exact zD.good tl (λz hz=>g z (aD _ hz)) q e
theorem Vp {wr:List (Int×T3)}{ts:List T3}(h1:∀q∈wr,good q.2=true) (h2:ts.all good=true) (h3:1<=ts.length) (y:Int):good (zg wr ts y)=true:=by
 unfold zg
 cases e:wr.find? λq=>decide (q.1=y) with
 | some q=>exact h1 q (iW e)
 | none =>
  have m0:=eA y (show (ts.length:Int)≠0 by omega)
  have m1:=dq y (show (0:Int)<ts.length by omega)
  have hi:(y % (ts.length:Int)).toNat<ts.length:=()
  show good (ts.getD (y % (ts.length:Int)).toNat (0,0,0))=true
  rw [ak,ae hi]
  exact List.all_eq_true.mp h2 _ (bU hi)
theorem Vh {t:T3}(g:good t=true) (h:Int):chg t h<=9:=by
 unfold good at g
 have:=of_decide_eq_true g
 unfold chg
 split <;> omega
noncomputable def wv (rows:List Q4) (b:Int):List V :=
 match rows.find? λq=>decide (q.2.2.2<=b) with
 | some q=>[.str "melt",.int q.1,.int q.2.1,.int (q.2.2.2-q.2.2.1-1-b)]
 | none=>[.str "off",.int ((rows.getLastD (0,0,0,0)).1+1)]
theorem yt {rows:List Q4}{b:Int}{i:Nat}{q:Q4}(h:rows[i]? = some q) (n:∀j x,j<i->rows[j]? = some x->¬x.2.2.2<=b) (c:q.2.2.2<=b):(rows.find? λq=>decide (q.2.2.2<=b))=some q:=by
 induction rows generalizing i with
 | nil=>simp at h
 | cons x r ih =>
  cases i with
  | zero =>
   simp at h
   subst h
   exact dX (by rw [decide_eq_true c])
  | succ i =>
   rw [dY (by rw [decide_eq_false (n 0 x () rfl)];exact ar)]
   exact ih (by simpa using h) λj y hj hy=>n (j+1) y () (by simpa using hy)
noncomputable def XS (C CN CP CY CB:Addr):Sp:=λvs H Q E=>∃(p:Addr) (g:IceG) (l n y layer:Int) (sk:List (Int×Addr)) (wr:List (Int×T3)),vs=[.ref p,.int l,.int n,.int y,.int layer]/\IceAt C H p g/\g.lds.length=g.slopes.length/\g.kvs=sk.map kvA/\zD H sk wr/\1<=g.rows.length/\g.rows.length<=1000 /\
 (l<0\/(g.slopes.length:Int)<=l->E (.ref CN) none H)/\(0<=l->l<(g.slopes.length:Int)->n<0\/((g.slopes.getD l.toNat []).length:Int)<=n->E (.ref CP) none H) /\
 (0<=l->l<(g.slopes.length:Int)->0<=n->n<((g.slopes.getD l.toNat []).length:Int)->∃ns ms,Yb g l ns/\(∀q∈ns,0<=q.1)/\(g.slopes.getD l.toNat []).length<=100/\ms.Perm ns/\(ms.map (·.1)).Pairwise (· <= ·)/\(∀H',jn H H'->y<0\/10 ^ 40<y->E (.ref CY) none H') /\
  (0<=y->y<=10 ^ 40->∀(q0:Q4) rows,rows=(qg ms (g.slopes.getD l.toNat []) wr g.rows (y+jf ns y-n)).drop (y-ja 0 0 ms (y+jf ns y-n)).toNat->rows[0]? = some q0 ->
   (layer<0\/q0.2.2.1<=layer->∀H',jn H H'->E (.ref CB) none H')/\(0<=layer->layer<q0.2.2.1->∀t H',H t=none->H' t=some (.tup (wv rows (q0.2.2.2-q0.2.2.1+layer)))->jn H H'->Q (.ref t) H')))
theorem qY:FnScope ["ice","lane","place","year","layer","onward","fell","lying","beneath","when","where","moved","left"] ["ice","lane","place","year","layer"] (j8 wK):=by walk_at "s"
theorem ZN {f C CN CP CY CB:Addr}{fd:FuncData}(e_BadHand:mg "BadHand" = some (.ref CB)) (x_BadHand:cN K CB [.type "ValueError",.type "Exception",.type "BaseException",.type "object"] "ValueError.__new__" = true) (c_parted:CalX P w K mg base 5 "parted" ["ice","lane","place","year"] (JU C CN CP CY))
  (F:Fun K "end_of" "end_of" wK f fd):FnOk P w K mg base (CX1 P w) 6 f fd ["ice","lane","place","year","layer"] (XS C CN CP CY CB):=by
 refine Fun.okX F qY (λvs H Q E h=>?_) (λcdv A outer s H vs Q E hr h=>?_)
 ·obtain ⟨p,g,l,n,y,layer,sk,wr,rfl,_⟩:=h
  rfl
 ·obtain ⟨p,g,l,n,y,layer,sk,wr,rfl,I,hll,ek,hw,hr1,hr2,kl,kp,k⟩:=h
  refine ⟨_,(j4 (jx 5 qY.nd (js (qC K) (xW c_parted (hr.mono ⋯) qE rfl (j0 (pv 0) (j0 (pv 1) (j0 (pv 2) (j0 (pv 3) j2))))) j7 (λ_ _=>rfl)))
   (j4 (zh (vG (Qe K) (js (jd K) (pv 5) j7 (λ_ _=>rfl)) (w5 j7) wc) (qx (n:=2) K rfl (jo (jb (i:=6) qY.nd rfl (aP rfl)) (jo (jb (i:=7) qY.nd rfl (aP rfl)) qw))))
   (j4 (qc (xl (xz qk yU j7 (pv 4) (pv 6))) (j9 (xh br x_BadHand e_BadHand rfl xJ rfl (j0 jB j2))) jw)
   (j4 (jx 8 qY.nd (jr jN (jr qI (pv 7) (pv 6)) (pv 4)))
   (j4 (V3 (qv aW rfl (jT K (pv 5)) (qx (n:=4) K rfl (jo (jb (i:=9) qY.nd rfl (aP rfl)) (jo (jb (i:=10) qY.nd rfl (aP rfl)) (jo (jb (i:=11) qY.nd rfl (aP rfl)) (jo (jb (i:=12) qY.nd rfl (aP rfl)) qw))))) (j9 (qc (jD qk (pv 12) (pv 8) (jK _)) (j9 (jm (qK (j0 jB (j0 (pv 9) (j0 (pv 10) (j0 (jr qI (jr qI (jr qI (pv 12) (pv 11)) j7) (pv 8)) j2))))))) jw))))
   (j9 (jm (qK (j0 jB (j0 (jr jN (js (qC K) (js (jd K) (pv 5) (wm ve j7) (λ_ _=>rfl)) j7 (λ_ _=>rfl)) j7) j2)))))))))),?_⟩
  left
  refine ⟨p,g,l,n,y,sk,wr,rfl,I,hll,ek,hw,hr1,hr2,kl,kp,λl0 l1 n0 n1=>?_⟩
  obtain ⟨ns,ms,hL,hp0,g100,hp,hs,ky,k⟩:=k l0 l1 n0 n1
  refine ⟨ns,ms,hL,hp0,g100,hp,hs,ky,λy0 y1 t a1 a2 out H1 ht ha1 ha2 ht1 ha11 ha21 r1 s1=>?_⟩
  have hpos:∀q∈ns,0<=q.1/\0<=q.2:=λq hq=>⟨hp0 q hq,(hL.2.2.2.2.2 q hq).1⟩
  have nd:(ns.map (·.1)).Nodup:=hL.2.2.2.1
  have e0:y+jf ns y-(y+jf ns y-n)=n:=()
  have onm:=(xk hp hs nd hpos (y+jf ns y-n) (g.slopes.getD l.toNat []).length y y0).mp (by rw [e0];exact ⟨n0,n1⟩)
  have hlo:=vm ms (g.slopes.getD l.toNat []) wr g.rows (y+jf ns y-n)
  have spl:=Z7 hp hs nd hpos (y+jf ns y-n) (g.slopes.getD l.toNat []).length ()
  have k:=k y0 y1
  have r2:ym H1 (out.drop (y-ja 0 0 ms (y+jf ns y-n)).toNat) ((qg ms (g.slopes.getD l.toNat []) wr g.rows (y+jf ns y-n)).drop (y-ja 0 0 ms (y+jf ns y-n)).toNat):=ym.drop _ r1
  generalize y+jf ns y-n=m at *
  generalize hkk:(y-ja 0 0 ms m).toNat=kk at *
  generalize hrw:(qg ms (g.slopes.getD l.toNat []) wr g.rows m).drop kk=rows at *
  have hrl:0<rows.length:=by rw [<- hrw,eQ];omega
  have hr100:rows.length<=100:=by rw [<- hrw,eQ];omega
  obtain ⟨q0,hq0⟩:∃q,rows[0]? = some q:=⟨_,ae hrl⟩
  obtain ⟨kb,k⟩:=k q0 rows rfl hq0
  generalize hov:out.drop kk=ov at *
  have hol:ov.length=rows.length:=aX r2
  obtain ⟨v0,hv0⟩:∃v,ov[0]? = some v:=⟨_,ae ()⟩
  obtain ⟨q0',hq0',b0,rfl,hb0⟩:=Paired.get r2 hv0
  rw [hq0] at hq0'
  cases hq0'
  have hb0:H1 b0=some (.tup [.int q0.1,.int q0.2.1,.int q0.2.2.1,.int q0.2.2.2]):=hb0
  left
  refine ⟨_,_,_,_,rfl,rfl,SqL.of ha21,x3 ⋯ (v:=V.ref b0) hv0,?_⟩
  left
  refine ⟨b0,_,rfl,SqT.of hb0,(by show ¬((2:Nat)=0/\_);exact λz=>absurd z.1 ⋯),λts H2 hts hts2 s2=>?_⟩
  have hts2:H2 ts=some (.tup [.int q0.2.2.1,.int q0.2.2.2]):=hts2
  left
  refine ⟨ts,_,rfl,SqT.of hts2,rfl,?_⟩
  refine ⟨_,_,rfl,_,_,rfl,rfl,?_⟩
  left
  have kx:layer<0\/q0.2.2.1<=layer->E (.ref CB) none H2:=λz=>kb z H2 (s1.trans s2)
  have main:0<=layer->layer<q0.2.2.1->∀t H',H t=none->H' t=some (.tup (wv rows (q0.2.2.2-q0.2.2.1+layer)))->jn H H'->Q (.ref t) H':=k
  refine qO (λh0=>?_) (λh0=>?_)
  ·left
   refine zn (λh1=>?_) (λh1=>?_)
   ·left
    exact ⟨by show 1<=sizeLine;decide,kx (.inr ())⟩
   ·have k:=k h0 h1
    clear main kb kx
    left
    refine ⟨⟨_,SqL.of (s2 _ _ ha21)⟩,?_⟩
    refine zL (K:=K) (a:=a2) (xs:=ov) (λi σ H3=>∃v9 v10 v11 v12:Option V,σ=[some (.ref p),some (.int l),some (.int n),some (.int y),some (.int layer),some (.ref a2),some (.int q0.2.2.1),some (.int q0.2.2.2),some (.int (q0.2.2.2-q0.2.2.1+layer)),v9,v10,v11,v12]/\jn H2 H3/\∀j x,j<i->rows[j]? = some x->¬x.2.2.2<=q0.2.2.2-q0.2.2.1+layer) ?_ ?_ ?_ ?_
    ·exact ⟨_,_,_,_,rfl,jn.refl _,λj x h=>()⟩
    ·rintro i σ H3 hi ⟨v9,v10,v11,v12,rfl,s3,hno⟩
     exact SqL.of (s3 _ _ (s2 _ _ ha21))
    ·rintro i v σ H3 hv ⟨v9,v10,v11,v12,rfl,s3,hno⟩
     obtain ⟨q,hq,b,rfl,hb⟩:=Paired.get r2 hv
     have hb:H1 b=some (.tup [.int q.1,.int q.2.1,.int q.2.2.1,.int q.2.2.2]):=hb
     left
     refine ⟨b,_,rfl,SqT.of (s3 _ _ (s2 _ _ hb)),rfl,?_⟩
     refine ⟨_,_,rfl,_,_,rfl,_,_,rfl,_,_,rfl,rfl,?_⟩
     left
     refine qO (λhle=>?_) (λhle=>?_)
     ·left
      refine ⟨by show 4<=sizeLine;decide,λt4 H4 ht4 ht44 s4=>?_⟩
      refine k t4 H4 ((s1.trans (s2.trans s3)).free ht4) ?_ (s1.trans (s2.trans (s3.trans s4)))
      rw [ht44]
      unfold wv
      rw [yt hq hno hle]
     ·left
      refine ⟨_,_,_,_,rfl,s3,λj x hj hx=>?_⟩
      by_cases e:j=i
      ·subst e
       rw [hq] at hx
       cases hx
       exact hle
      ·exact hno j x () hx
    ·rintro σ H3 ⟨v9,v10,v11,v12,rfl,s3,hno⟩
     have hnone:(rows.find? λq=>decide (q.2.2.2<=q0.2.2.2-q0.2.2.1+layer))=none:=by
      rw [iS]
      intro x hx
      obtain ⟨j,hj,ej⟩:=List.mem_iff_getElem.mp hx
      have:=hno j x () (by rw [ae hj,ej])
      rw [decide_eq_false this]
      exact ar
     have hn0:ov≠[]:=λz=>by rw [z] at hol;simp at hol;omega
     obtain ⟨ini,vl,eov⟩:∃ini vl,ov=ini++[vl]:=⟨_,_,(List.dropLast_concat_getLast hn0).symm⟩
     have hvl:ov[ini.length]? = some vl:=by rw [eov,bK (ao _),oC];rfl
     obtain ⟨ql,hql,bl,rfl,hbl⟩:=Paired.get r2 hvl
     have elast:rows.getLastD (0,0,0,0)=ql:=by
      have e1:rows.length=ini.length+1:=by rw [<- hol,eov,aq];rfl
      rw [iX,iY,e1,Nat.add_sub_cancel,hql]
      rfl
     have hbl:H1 bl=some (.tup [.int ql.1,.int ql.2.1,.int ql.2.2.1,.int ql.2.2.2]):=hbl
     have h23:=s3 _ _ (s2 _ _ ha21)
     rw [eov] at h23
     left
     refine ⟨_,_,_,_,rfl,rfl,SqL.of h23,Qf _ _,?_⟩
     have hbl3:=s3 _ _ (s2 _ _ hbl)
     left
     refine ⟨by show 2<=sizeLine;decide,λt4 H4 ht4 ht44 s4=>?_⟩
     refine k t4 H4 ((s1.trans (s2.trans s3)).free ht4) ?_ (s1.trans (s2.trans (s3.trans s4)))
     rw [ht44]
     unfold wv
     rw [hnone,elast]
  ·left
   refine yH ?_
   left
   exact ⟨by show 1<=sizeLine;decide,kx (.inl ())⟩
theorem ScAt.frM {H H':Hp}{sd:Addr}{c:ScN}(S:ScAt H sd c) (f:FrM c.D H H'):ScAt H' sd c:=S.keep (N:=λ_=>False) (λc o h _=>f c o h) (λ_ _ _ z=>z) id S.nD id id id id (λ_ _=>id) id (λ_ _=>id)
theorem FrM.keepT {M:Addr->Prop}{H H':Hp}(f:FrM M H H'):jk H H':=λa xs h=>f.at h (by walk_at "w")
theorem FrM.put {M:Addr->Prop}{H H':Hp}{c:Addr}{o:HO}(f:FrM M H H') (n:H c=none):FrM M H (upd H' c o):=λd u hd=>by
 have:d≠c:=λe=>by rw [e,n] at hd;cases hd
 rw [j6 this]
 exact f d u hd
theorem FrM.no {M:Addr->Prop}{H H':Hp}{c:Addr}(f:FrM M H H') (n:H' c=none):H c=none:=by
 cases e:H c with
 | none=>rfl
 | some o =>
  rcases f c o e with h | ⟨_,_,_,_,h⟩
  ·rw [n] at h;cases h
  ·rw [n] at h;cases h
theorem V4 {H:Hp}{sd da:Addr}{c:ScN}{g:IceG}{l y:Int}{wy:List Int}{dn:List (Int×Int)}{Q:VK}{E:XK}(S:ScAt H sd c) (LF:LaneF c g l wy da dn) (k:∀H',FrM c.D H H'->Q (.int (y+jf dn y)) H'):Xw [.ref sd,.int l,.int y] H Q E:=by
 have hdm:=aw LF.cd
 have ell:c.lds.map (λx=>V.ref x.1)=(c.lds.map (·.1)).map V.ref:=by rw [bP];rfl
 have eda:(c.lds.map (·.1))[l.toNat]? = some da:=by rw [ax,LF.cd];rfl
 have l10:=LF.l10
 exact ⟨c.D,sd,c.p,c.q,c.sg,c.gl,c.ll,da,c.lds.map (·.1),l,_,dn,rfl,S.sd,(by rw [<- ell];exact S.ll),LF.l0,eda,S.ld _ hdm,LF.D,S.nD,(),LF.nd,λq hq=>by have:=LF.b q hq;omega,k⟩
theorem ScAt.gnd {H:Hp}{sd da:Addr}{c:ScN}{g:IceG}{l:Int}{wy:List Int}{dn:List (Int×Int)}(S:ScAt H sd c) (LF:LaneF c g l wy da dn):∃ga,atI c.zs l=some (V.ref ga)/\H ga=some (.lst ((jc c.rs wy).map V.int)):=by
 have hzl:c.zs.length=c.ws.length:=(aX S.gi).trans (ah _)
 have hi:l.toNat<c.zs.length:=by rw [hzl];exact (List.getElem?_eq_some_iff.mp LF.way).1
 obtain ⟨gw,hgw,ga,ega,hga⟩:=Paired.get S.gi (ae hi)
 rw [ax,LF.way] at hgw
 have hgw:=aO hgw
 subst hgw
 exact ⟨ga,x3 LF.l0 (by rw [ae hi,ega]),hga⟩
noncomputable def xU (R:Int) (n:Nat):List Int:=(aF n).map λp:Nat=>R-(p:Int)
theorem Zw {R k:Int}{n:Nat}:k∈xU R n↔R-(n:Int)<k/\k<=R:=by
 unfold xU
 rw [List.mem_map]
 constructor
 ·rintro ⟨p,hp,rfl⟩
  have:=List.mem_range.mp hp
  omega
 ·rintro ⟨a,b⟩
  exact ⟨(R-k).toNat,List.mem_range.mpr (),()⟩
theorem uv (R:Int) (n:Nat):(xU R n).length=n:=by
 unfold xU
 rw [ah,bg]
theorem Vg {R:Int}{n p:Nat}(h:p<n):(xU R n)[p]? = some (R-(p:Int)):=by
 unfold xU
 rw [ax,cZ h]
 rfl
noncomputable def Z9:Sp:=λvs H Q _=>∃(sd:Addr) (c:ScN) (g:IceG) (l y:Int) (wy:List Int) (da:Addr) (dn:List (Int×Int)),vs=[.ref sd,.int l,.int y]/\ScAt H sd c/\LaneF c g l wy da dn /\
 ∀o H',H o=none->H' o=some (.lst ((xU (y+jf dn y) (jc c.rs wy).length).map V.int))->FrM c.D H H'->Q (.ref o) H'
theorem ua:FnScope ["_law_scene_here","_law_lane","_law_year_here","_law_ride_here"] ["_law_scene_here","_law_lane","_law_year_here"] (j8 zx):=by walk_at "s"
theorem YQ {f:Addr}{fd:FuncData}(nb:Nb2 mg) (c_law_ride:Cal P w K mg base 1 "_law_ride" ["_law_scene_here","_law_lane","_law_year_here"] Xw)
  (F:Fun K "_law_marks" "_law_marks" zx f fd):FnOk P w K mg base CX0 2 f fd ["_law_scene_here","_law_lane","_law_year_here"] Z9:=by
 refine F.ok ua (λvs H Q E h=>?_) (λcdv A outer s H vs Q E hr h=>?_)
 ·obtain ⟨sd,c,g,l,y,wy,da,dn,rfl,_⟩:=h
  rfl
 ·obtain ⟨sd,c,g,l,y,wy,da,dn,rfl,S,LF,k⟩:=h
  have g30:=LF.g30
  refine ⟨_,(j4 (yy (i:=3) ua.nd rfl (fW rfl) (jg c_law_ride (hr.mono ⋯) rfl (j0 (pv 0) (j0 (pv 1) (j0 (pv 2) j2)))))
   (j9 (jm (jS (osc:=(j8 zx)) (ON:=["_law_scene_here","_law_lane","_law_year_here","_law_ride_here"]) (N:=["_law_place","_law_ride_here"]) (own:=1) (caps:=[3]) ⟨rfl,∅,∅,∅,rfl,∅⟩ rfl rfl rfl (qd rfl nb.b_range (j0 (je (jh K) rfl nb.b_len aV (j0 (js (jd K) (jI (jQ hr) (pv 0) jB (λ_ _=>rfl)) (pv 1) (λ_ _=>rfl)) j2)) j2)) (λ_ _ _ _ _=>(jb (i:=0) (show bc (["_law_place","_law_ride_here"]:List Str) by decide +kernel) rfl (aP rfl))) (λ_ _ _ _ _=>jH) (λ_ _ _ _ _=>(jr qI (pv 1) (pv 0))))))),?_⟩
  left
  simp only [VX,bp]
  refine V4 S LF λH1 f1=>?_
  have S1:=S.frM f1
  obtain ⟨ga,ega,hga⟩:=S1.gnd LF
  left
  refine ⟨sd,.ref c.gl,rfl,by rw [<- yb c.p c.q c.sg c.gl c.ll];exact xo.k (k:=.inr "grounds") S1.sd,?_⟩
  left
  refine ⟨_,_,_,_,rfl,rfl,SqL.of S1.gl,ega,?_⟩
  left
  refine ⟨ga,_,rfl,.inl (SqL.of hga),?_⟩
  rw [ah]
  left
  refine ⟨(),(),λacc hacc=>?_⟩
  refine xn (lo:=0) (n:=(((jc c.rs wy).length:Nat):Int).toNat) (acc:=acc) (λi σ H2=>∃x:Option V,σ=[x,some (.int (y+jf dn y))]/\H2 acc=some (.lst ((xU (y+jf dn y) i).map V.int))/\Ext acc H1 H2) ?_ ?_ ?_
  ·exact ⟨none,rfl,j5,Ext.put⟩
  ·rintro i σ H2 hi ⟨x,rfl,h2,e2⟩
   left
   refine ⟨_,h2,by rw [ah,uv];exact jj (),_,rfl,?_,e2.trans Ext.put⟩
   unfold xU
   rw [j5,cj,aA,aA,dU]
   rfl
  ·rintro σ H2 ⟨x,rfl,h2,e2⟩
   rw [bw] at h2
   left
   exact k acc H2 (f1.no hacc) h2 (f1.trans (FrM.of_same λc o hc=>e2 c o hc (j1 hc hacc)))
theorem jG.same {H H':Hp}{vs:List V}{ts:List T3}(r:jG H vs ts) (s:jn H H'):jG H' vs ts:=r.imp λ_ _ q=>s _ _ q
theorem jG.keep {H H':Hp}{vs:List V}{ts:List T3}(r:jG H vs ts) (s:jk H H'):jG H' vs ts:=r.imp λ_ _ q=>s _ _ q
noncomputable def vX (t:T3):List Key:=[.inl t.1,.inl t.2.1,.inl t.2.2]
noncomputable def ju (H:Hp) (ps:List (Int×Addr)) (cs:List (Int×List T3)):Prop:=cO (λ(z:Int×Addr) (q:Int×List T3)=>z.1=q.1/\∃out,H z.2=some (.lst out)/\jG H out q.2) ps cs
noncomputable def qo (G:List Key->List V->Prop) (H:Hp) (ea:Addr) (n:Nat):Prop:=∃kvs:List (List Key×V),H ea=some (.dT kvs)/\kvs.length<=n/\∀k v,jP kvs k=some v->∃t xs,v=V.ref t/\H t=some (.tup xs)/\G k xs
theorem qo.mono {G:List Key->List V->Prop}{H:Hp}{ea:Addr}{n m:Nat}(h:qo G H ea n) (l:n<=m):qo G H ea m:=by
 obtain ⟨kvs,h1,h2,h3⟩:=h
 exact ⟨kvs,h1,aG h2 l,h3⟩
theorem qo.keep {G:List Key->List V->Prop}{H H':Hp}{ea:Addr}{n:Nat}(h:qo G H ea n) (t:jk H H') (d:∀kvs,H ea=some (.dT kvs)->H' ea=some (.dT kvs)):qo G H' ea n:=by
 obtain ⟨kvs,h1,h2,h3⟩:=h
 refine ⟨kvs,d _ h1,h2,λk v hv=>?_⟩
 obtain ⟨t',xs,e,h4,g⟩:=h3 k v hv
 exact ⟨t',xs,e,t _ _ h4,g⟩
theorem qo.put {G:List Key->List V->Prop}{H:Hp}{ea t:Addr}{n:Nat}{kvs:List (List Key×V)}{k:List Key}{xs:List V}(h1:H ea=some (.dT kvs)) (h2:kvs.length<=n) (h3:∀k v,jP kvs k=some v->∃t xs,v=V.ref t/\H t=some (.tup xs)/\G k xs) (ht:H t=some (.tup xs)) (g:G k xs):qo G (upd H ea (.dT (qt kvs k (.ref t)))) ea (n+1):=by
 have nT:∀{a:Addr} {ys:List V},H a=some (.tup ys)->(upd H ea (.dT (qt kvs k (.ref t)))) a=some (.tup ys):=λh=>by rw [j6 (ji h h1 (by walk_at "z"))];exact h
 refine ⟨_,j5,aG (zm _ _ _) (),λk' v hv=>?_⟩
 rw [Ye] at hv
 by_cases e:k'=k
 ·rw [if_pos e] at hv
  cases hv
  subst e
  exact ⟨t,xs,rfl,nT ht,g⟩
 ·rw [if_neg e] at hv
  obtain ⟨t',ys,e',h4,g'⟩:=h3 k' v hv
  exact ⟨t',ys,e',nT h4,g'⟩
theorem ju.keep {H H':Hp}{ps:List (Int×Addr)}{cs:List (Int×List T3)}(h:ju H ps cs) (t:jk H H') (l:∀z∈ps,∀out,H z.2=some (.lst out)->H' z.2=some (.lst out)):ju H' ps cs:=pmM h λz hz q ⟨e,out,h1,h2⟩=>⟨e,out,l z hz out h1,jG.keep h2 t⟩
noncomputable def qq (cs:List (Int×List T3)) (m:Int):List T3:=((cs.find? λq=>decide (q.1=m)).map (·.2)).getD []
noncomputable def zJ (hs:List T3) (y p w:Int):List T3:=if 0<w then hs++(aF w.toNat).map (λk:Nat=>(y,p,(k:Int))) else hs.take (hs.length-(- w).toNat)
theorem ju.find {H:Hp}:∀{ps:List (Int×Addr)}{cs:List (Int×List T3)},ju H ps cs->∀m:Int,(jP (ps.map kvA) (.inl m)=none/\qq cs m=[])\/∃a out,jP (ps.map kvA) (.inl m)=some (.ref a)/\H a=some (.lst out)/\jG H out (qq cs m)/\∃q∈cs,q.2=qq cs m
 | _,_,.nil,m=>.inl ⟨rfl,rfl⟩
 | _,_,.cons (a:=z) (b:=q) ⟨e,out,h1,h2⟩ r,m=>by
  by_cases w:z.1=m
  ·refine .inr ⟨z.2,out,?_,h1,?_⟩
   ·rw [aJ]
    show jP (((.inl z.1:Key),V.ref z.2)::_) (.inl m:Key)=_
    rw [w]
    exact xc
   ·have e2:∀l,qq (q::l) m=q.2:=λl=>by
     unfold qq
     rw [dX (by rw [decide_eq_true (e ▸ w)])]
     rfl
    rw [e2]
    exact ⟨h2,q,aH ..,rfl⟩
  ·have e2:∀l,qq (q::l) m=qq l m:=λl=>by
    unfold qq
    rw [dY (by rw [decide_eq_false (λx=>w (e.trans x))];exact ar)]
   have e3:∀l:List (Int×Addr),jP ((z::l).map kvA) (.inl m)=jP (l.map kvA) (.inl m):=λl=>by
    rw [aJ]
    exact jt λx=>w (dM x)
   rw [e2,e3]
   rcases ju.find r m with h | ⟨a,o,g1,g2,g3,q',hq',g4⟩
   ·exact .inl h
   ·exact .inr ⟨a,o,g1,g2,g3,q',aD _ hq',g4⟩
theorem ju.keep2 {H H':Hp}{ea pa:Addr}{ps:List (Int×Addr)}{cs:List (Int×List T3)}(h:ju H ps cs) (k:∀a u,H a=some u->a≠ea->a≠pa->H' a=some u) (e:∀xs,H ea≠some (.lst xs)/\H ea≠some (.tup xs)) (p:∀xs,H pa≠some (.lst xs)/\H pa≠some (.tup xs)):ju H' ps cs :=
 h.keep (λa xs ha=>k a _ ha (λz=>(e xs).2 (z ▸ ha)) (λz=>(p xs).2 (z ▸ ha))) λz _ out ho=>k _ _ ho (λw=>(e out).1 (w ▸ ho)) (λw=>(p out).1 (w ▸ ho))
theorem ju.none {H:Hp}{m:Int}:∀{ps:List (Int×Addr)}{cs:List (Int×List T3)},ju H ps cs->(∀q∈cs,q.1≠m)->jP (ps.map kvA) (.inl m)=none
 | _,_,.nil,_=>rfl
 | _,_,.cons (a:=z) (b:=q) ⟨e,_⟩ r,n=>by
  rw [aJ]
  show jP (((.inl z.1:Key),V.ref z.2)::_) (.inl m:Key)=_
  rw [jt λx=>n q (aH ..) (e.symm.trans (dM x))]
  exact ju.none r λq' h=>n q' (aD _ h)
theorem ju.snoc {H:Hp}:∀{ps:List (Int×Addr)}{cs:List (Int×List T3)}{m:Int}{a:Addr}{out:List V}{hs:List T3},ju H ps cs->H a=some (.lst out)->jG H out hs->ju H (ps++[(m,a)]) (cs++[(m,hs)])
 | _,_,_,_,out,_,.nil,h1,h2=>.cons ⟨rfl,out,h1,h2⟩ .nil
 | _,_,_,_,_,_,.cons h r,h1,h2=>.cons h (ju.snoc r h1 h2)
theorem wq {H:Hp}:∀{vs:List V}{ts:List T3}(n:Nat),jG H vs ts->jG H (vs.take n) (ts.take n)
 | _,_,0,_=>.nil
 | _,_,_+1,.nil=>.nil
 | _,_,n+1,.cons h r=>.cons h (wq n r)
theorem Zk (hs:List T3) (y p w:Int) {cnt:Nat}(h1:0<w->cnt=0) (h2:¬0<w->cnt=min hs.length (- w).toNat):(hs++(aF w.toNat).map (λk:Nat=>(y,p,(k:Int)))).take ((hs++(aF w.toNat).map (λk:Nat=>(y,p,(k:Int)))).length-cnt)=zJ hs y p w:=by
 unfold zJ
 by_cases z:0<w
 ·rw [if_pos z,h1 z,oO,aZ]
 ·rw [if_neg z,show w.toNat=0 by omega,mi,eR,bp,h2 z]
  congr 1
  omega
theorem UX {t:T3}(g:good t=true) (h:Int) : -9<=chg t h:=by
 have g:0<=t.1/\t.1<=100/\0<=t.2.1/\t.2.1<=9/\0<=t.2.2/\t.2.2<=9:=of_decide_eq_true g
 unfold chg
 split <;> omega
noncomputable def JB:Sp:=λvs H Q _=>∃(sd:Addr) (c:ScN) (g:IceG) (l y:Int) (wy:List Int) (da:Addr) (dn:List (Int×Int)) (wr:List (Int×T3)) (pa ea:Addr) (ps:List (Int×Addr)) (cs:List (Int×List T3)) (n:Nat) (G:List Key->List V->Prop),vs=[.ref sd,.int l,.ref pa,.int y,.ref ea]/\ScAt H sd c/\LaneF c g l wy da dn/\zD H c.sk wr/\1<=c.ts.length/\c.ts.length<=1000/\(∀z,good (zg wr c.ts z)=true)/\H pa=some (.dK (ps.map kvA))/\pa≠sd/\(ps.map (·.1)).Nodup/\ps.length<=100/\ju H ps cs/\(∀q∈cs,q.2.length<=800)/\qo G H ea n/\n<=16000000 /\
 (∀q∈cs,¬q.1∈xU (y+jf dn y) (jc c.rs wy).length->∀h∈q.2,G (vX h) [.str "off",.int y]) /\
 (∀p:Nat,p<(jc c.rs wy).length->∀k:Nat,k<(- chg (zg wr c.ts y) ((jc c.rs wy).getD p 0)).toNat->k<(qq cs (y+jf dn y-(p:Int))).length->∀h,(qq cs (y+jf dn y-(p:Int)))[(qq cs (y+jf dn y-(p:Int))).length-1-k]? = some h->G (vX h) [.str "melt",.int y,.int (p:Int),.int (k:Int)]) /\
 ∀(la:Addr) (ps2:List (Int×Addr)) (H':Hp),H la=none->H' la=some (.dK (ps2.map kvA))->ju H' ps2 ((aF (jc c.rs wy).length).map λp:Nat=>(y+jf dn y-(p:Int),zJ (qq cs (y+jf dn y-(p:Int))) y (p:Int) (chg (zg wr c.ts y) ((jc c.rs wy).getD p 0))))->(∀z∈ps2,H z.2=none)->qo G H' ea (n+120000)->Fr3 (λa=>a=ea) (λa=>c.D a\/a=pa) H H'->Q (.ref la) H'
theorem jF:FnScope ["_law_scene_here","_law_lane","_law_piles","_law_year_here","_law_ends","_law_marks_here","_law_later","_law_gone","_law_hand","_law_place","_law_one","_law_hands","_law_many","_law_layer","_law_turn"] ["_law_scene_here","_law_lane","_law_piles","_law_year_here","_law_ends"] (j8 zB):=by walk_at "s"
theorem QH {f:Addr}{fd:FuncData}(nb:Nb2 mg) (c_law_marks:Cal P w K mg base 2 "_law_marks" ["_law_scene_here","_law_lane","_law_year_here"] Z9) (c_law_wish:Cal P w K mg base 1 "_law_wish" ["_law_row_here","_law_height"] Vb) (c_law_row:Cal P w K mg base 1 "_law_row" ["_law_scene_here","_law_year_here"] Ys)
  (F:Fun K "_law_year_of" "_law_year_of" zB f fd):FnOk P w K mg base CX0 3 f fd ["_law_scene_here","_law_lane","_law_piles","_law_year_here","_law_ends"] JB:=by
 refine F.ok jF (λvs H Q E h=>?_) (λcdv A outer s H vs Q E hr h=>?_)
 ·obtain ⟨sd,c,g,l,y,wy,da,dn,wr,pa,ea,ps,cs,n,G,rfl,_⟩:=h
  rfl
 ·obtain ⟨sd,c,g,l,y,wy,da,dn,wr,pa,ea,ps,cs,n,G,rfl,S,LF,hw,t1,t2,sg,hpa,pasd,nd,p100,P0,c800,E0',hn7,hoff,hmelt,k⟩:=h
  have g30:=LF.g30
  have gAt:=λ{H':Hp} (S':ScAt H' sd c)=>S'.gnd LF
  have nds:∀{H':Hp} {n':Nat} {xs:List V},qo G H' ea n'->H' ea≠some (.lst xs)/\H' ea≠some (.tup xs):=λh=>by
   obtain ⟨kvs,h1,_⟩:=h
   rw [h1]
   exact ⟨(by walk_at "z"),(by walk_at "z")⟩
  have npd:∀{H':Hp} {xs:List V},Rd H' pa (.dK (ps.map kvA))->H' pa≠some (.lst xs)/\H' pa≠some (.tup xs):=λh=>by
   rcases h with h | ⟨o,h⟩ <;> (rw [h];exact ⟨(by walk_at "z"),(by walk_at "z")⟩)
  have eaN:∀{a:Addr} {u:HO},H a=some u->(∀kvs,u≠.dT kvs)->¬a=ea:=λh d w=>by
   obtain ⟨kvs,h1,_⟩:=E0'
   rw [w,h1] at h
   exact d kvs (aO h).symm
  generalize hgd:jc c.rs wy=gd at *
  refine ⟨_,(j4 (jx 5 jF.nd (jg c_law_marks (hr.mono ⋯) rfl (j0 (pv 0) (j0 (pv 1) (j0 (pv 3) j2)))))
   (j4 (jx 6 jF.nd zM)
   (j4 (qv aW rfl (w9 (pv 2)) (jb (i:=7) jF.nd rfl (aP rfl)) (j9 (qc (jD (xL K) (pv 7) (pv 5) (by with_unfolding_all rfl)) (j9 (qv aW rfl (jT K (jI (jQ hr) (pv 2) (pv 7) (λ_ _=>rfl))) (jb (i:=8) jF.nd rfl (aP rfl)) (j9 (xY (jQ hr) (pv 4) (pv 8) (qK (j0 jB (j0 (pv 3) j2))) rfl)))) jw)))
   (j4 (qv aW rfl (J8 K rfl nb.b_enumerate (j0 (pv 5) j2)) (qx (n:=2) K rfl (jo (jb (i:=9) jF.nd rfl (aP rfl)) (jo (jb (i:=10) jF.nd rfl (aP rfl)) qw))) (j4 (jx 11 jF.nd (qH (qz K) rfl nb.b_list bQ (j0 (kg (jQ hr) (pv 2) (pv 10) (jZ j2) ⟨rfl,rfl,rfl,rfl⟩) j2)))
   (j4 (jx 12 jF.nd (jg c_law_wish (hr.mono ⋯) rfl (j0 (jg c_law_row (hr.mono ⋯) rfl (j0 (pv 0) (j0 (pv 3) j2))) (j0 (js (jd K) (js (jd K) (jI (jQ hr) (pv 0) jB (λ_ _=>rfl)) (pv 1) (λ_ _=>rfl)) (pv 9) (λ_ _=>rfl)) j2))))
   (j4 (qv aW rfl (qd rfl nb.b_range (j0 (je (zU rfl) rfl nb.b_max oK (j0 j7 (j0 (pv 12) j2))) j2)) (jb (i:=13) jF.nd rfl (aP rfl)) (j9 (jY (y3 K bz bD bE qA (pv 11) (j0 (qK (j0 (pv 3) (j0 (pv 9) (j0 (pv 13) j2)))) j2)))))
   (j4 (qv aW rfl (qd rfl nb.b_range (j0 (je (ur rfl) rfl nb.b_min sZ (j0 (je (jh K) rfl nb.b_len aV (j0 (pv 11) j2)) (j0 (je (zU rfl) rfl nb.b_max oK (j0 j7 (j0 (jr qI j7 (pv 12)) j2))) j2))) j2)) (jb (i:=14) jF.nd rfl (aP rfl)) (j9 (xY (jQ hr) (pv 4) (Vv K bz PySem.F.slot_list_pop PySem.F.type_list_pop W0 (pv 11)) (qK (j0 jB (j0 (pv 3) (j0 (pv 9) (j0 (pv 14) j2))))) rfl)))
   (j9 (xY (jQ hr) (pv 6) (pv 10) (pv 11) rfl)))))))
   (j9 (jm (pv 6))))))),?_⟩
  left
  refine ⟨sd,c,g,l,y,wy,da,dn,rfl,S,LF,λmk H1 hmk hmk1 f1=>?_⟩
  rw [hgd] at hmk1
  have E1:qo G H1 ea n:=E0'.keep (FrM.keepT f1) λkvs h=>f1.at h (by walk_at "w")
  have hpa1:=f1.rd (.inl hpa)
  have P1:ju H1 ps cs:=P0.keep (FrM.keepT f1) λz _ out h=>f1.at h (by walk_at "w")
  left
  intro la hla
  have hlaH:H la=none:=f1.no hla
  have s2:jn H1 (upd H1 la (.dK [])):=jn.new hla
  have hla2:(upd H1 la (.dK [])) la=some (.dK []):=j5
  have hmk2:=s2 _ _ hmk1
  have E2:qo G (upd H1 la (.dK [])) ea n:=E1.keep (jk.same s2) λkvs h=>s2 _ _ h
  have hpa2:Rd (upd H1 la (.dK [])) pa (.dK (ps.map kvA)):=hpa1.imp (λh=>s2 _ _ h) λ⟨o,h⟩=>⟨o,s2 _ _ h⟩
  have P2:ju (upd H1 la (.dK [])) ps cs:=P1.keep (jk.same s2) λz _ out h=>s2 _ _ h
  have lapa:la≠pa:=λz=>by
   rcases hpa1 with h | ⟨o,h⟩ <;> (rw [<- z,hla] at h;cases h)
  have laea:la≠ea:=λz=>by
   obtain ⟨kvs,h,_⟩:=E1
   rw [<- z,hla] at h
   cases h
  have f02:FrM c.D H (upd H1 la (.dK [])):=f1.put hlaH
  clear s2 E1 P1 hpa1 hmk1
  generalize upd H1 la (.dK [])=H2 at *
  generalize hR:y+jf dn y=R at *
  left
  refine uj (kvs:=ps.map kvA) hpa2 (λo i σ H3=>∃x7 x8:Option V,σ=[some (.ref sd),some (.int l),some (.ref pa),some (.int y),some (.ref ea),some (.ref mk),some (.ref la),x7,x8,none,none,none,none,none,none]/\H3 pa=some (.frz o (.dK (ps.map kvA)))/\qo G H3 ea (n+900*i)/\∀a u,H2 a=some u->a≠ea->a≠pa->H3 a=some u) ?_ ?_ ?_ ?_
  ·intro o H3 f3
   exact ⟨_,_,rfl,f3.1,E2.keep (λa xs h=>f3.at h λz=>(npd hpa2).2 (z ▸ h)) (λkvs h=>f3.at h λz=>by rcases hpa2 with q | ⟨o,q⟩ <;> (rw [<- z,h] at q;cases q)),λa u h n1 n2=>f3.at h n2⟩
  ·rintro o i σ H3 hi ⟨x7,x8,rfl,hpa3,E3,k3⟩
   exact hpa3
  ·rintro o i q σ H3 hq ⟨x7,x8,rfl,hpa3,E3,k3⟩
   rw [ax] at hq
   obtain ⟨z,hz,rfl⟩:=Option.map_eq_some_iff.mp hq
   have hi:i<ps.length:=(List.getElem?_eq_some_iff.mp hz).1
   obtain ⟨q,hqc,eq,out,hout,hrows⟩:=Paired.get P2 hz
   have hq800:=c800 q (aw hqc)
   have hol:out.length=q.2.length:=aX hrows
   have hmk3:=k3 _ _ hmk2 (λw=>(nds E2).1 (w ▸ hmk2)) (λw=>(npd hpa2).1 (w ▸ hmk2))
   show vE 7 (V.int z.1) _ _ _
   left
   refine ⟨mk,_,rfl,.inl (SqL.of hmk3),rfl,zK _,?_⟩
   left
   rw [yI]
   refine zn (λhin=>?_) (λhin=>?_)
   ·have hof:=hoff q (aw hqc) (by rw [<- eq];exact hin)
    left
    refine ⟨pa,.ref z.2,rfl,by rw [<- uq nd (aw hz)];exact .inl ⟨_,.inl z.1,.inr ⟨o,hpa3⟩,rfl,rfl⟩,?_⟩
    have zea:z.2≠ea:=λw=>(nds E2).1 (w ▸ hout)
    have zpa:z.2≠pa:=λw=>(npd hpa2).1 (w ▸ hout)
    refine ⟨z.2,rfl,⟨_,SqL.of (k3 _ _ hout zea zpa)⟩,?_⟩
    refine zL (K:=K) (a:=z.2) (xs:=out) (λj σ H4=>∃x8:Option V,σ=[some (.ref sd),some (.int l),some (.ref pa),some (.int y),some (.ref ea),some (.ref mk),some (.ref la),some (.int z.1),x8,none,none,none,none,none,none]/\H4 pa=some (.frz o (.dK (ps.map kvA)))/\qo G H4 ea (n+900*i+j)/\∀a u,H2 a=some u->a≠ea->a≠pa->H4 a=some u) ?_ ?_ ?_ ?_
    ·exact ⟨_,rfl,hpa3,E3,k3⟩
    ·rintro j σ H4 hj ⟨x8,rfl,hpa4,E4,k4⟩
     exact SqL.of (k4 _ _ hout zea zpa)
    ·rintro j v σ H4 hv ⟨x8,rfl,hpa4,E4,k4⟩
     obtain ⟨h,hh,b,rfl,hb⟩:=Paired.get hrows hv
     have hj:j<out.length:=(List.getElem?_eq_some_iff.mp hv).1
     have hb4:=k4 _ _ hb (λw=>(nds E2).2 (w ▸ hb)) (λw=>(npd hpa2).2 (w ▸ hb))
     left
     refine ⟨by show 2<=sizeLine;decide,λt H5 ht ht5 s5=>?_⟩
     obtain ⟨kvs,e1,e2,e3⟩:=E4.keep (jk.same s5) λkvs h=>s5 _ _ h
     left
     refine ⟨ea,_,rfl,vn.t (k:=vX h) e1 (s5 _ _ hb4) (by rw [bt];omega),?_⟩
     refine ⟨_,rfl,?_,qo.put e1 e2 e3 ht5 (hof h (aw hh)),λa u ha n1 n2=>by rw [j6 n1];exact s5 _ _ (k4 a u ha n1 n2)⟩
     rw [j6 (ji (s5 _ _ hpa4) e1 (by walk_at "z"))]
     exact s5 _ _ hpa4
    ·rintro σ H4 ⟨x8,rfl,hpa4,E4,k4⟩
     exact ⟨_,_,rfl,hpa4,E4.mono (),k4⟩
   ·exact ⟨_,_,rfl,hpa3,E3.mono (),k3⟩
  rintro o σ H3 ⟨x7,x8,rfl,hpa3,E3,k3⟩
  rw [ah] at E3
  have hla3:=k3 _ _ hla2 laea lapa
  have hmk3:=k3 _ _ hmk2 (λw=>(nds E2).1 (w ▸ hmk2)) (λw=>(npd hpa2).1 (w ▸ hmk2))
  have P3:=P2.keep2 k3 (λxs=>nds E2) (λxs=>npd hpa2)
  have E3:=E3.mono (show n+900*ps.length<=n+90000 by omega)
  have f03:Fr3 (λa=>a=ea) (λa=>c.D a\/a=pa) H H3:=λa u ha na=>by
   by_cases w:a=pa
   ·subst w
    rw [hpa] at ha
    cases ha
    exact .inr ⟨.inr rfl,o,_,rfl,hpa3⟩
   ·rcases f02 a u ha with h | ⟨m,ob,kvs,eo,h⟩
    ·exact .inl (k3 a u h na w)
    ·exact .inr ⟨.inl m,ob,kvs,eo,k3 a _ h na w⟩
  have mkea:mk≠ea:=λw=>(nds E3).1 (w ▸ hmk3)
  have mkla:mk≠la:=ji hmk3 hla3 (by walk_at "z")
  have pala:pa≠la:=lapa.symm
  have paea:pa≠ea:=by
   obtain ⟨kvs,h1,_⟩:=E3
   exact ji hpa3 h1 (by walk_at "z")
  have ndl:∀xs,H3 la≠some (.lst xs)/\H3 la≠some (.tup xs):=λxs=>by
   rw [hla3]
   exact ⟨(by walk_at "z"),(by walk_at "z")⟩
  clear E2 P2 hmk2 hla2 hpa2 k3 f02 f1 hla
  left
  refine ⟨⟨_,SqL.of hmk3⟩,?_⟩
  refine JA (K:=K) (a:=mk) (xs:=(xU R gd.length).map V.int) (λp σ H4=>∃(x9 x10 x11 x12 x13 x14:Option V) (ps2:List (Int×Addr)),σ=[some (.ref sd),some (.int l),some (.ref pa),some (.int y),some (.ref ea),some (.ref mk),some (.ref la),x7,x8,x9,x10,x11,x12,x13,x14]/\H4 la=some (.dK (ps2.map kvA))/\ps2.length=p/\ju H4 ps2 ((aF p).map λp:Nat=>(R-(p:Int),zJ (qq cs (R-(p:Int))) y (p:Int) (chg (zg wr c.ts y) (gd.getD p 0))))/\(∀z∈ps2,H z.2=none)/\qo G H4 ea (n+90000+1000*p)/\∀a u,H3 a=some u->a≠ea->a≠la->H4 a=some u) ?_ ?_ ?_ ?_
  ·exact ⟨_,_,_,_,_,_,[],rfl,hla3,rfl,.nil,(λz h=>nomatch h),E3,λa u h _ _=>h⟩
  ·rintro p σ H4 hp' ⟨x9,x10,x11,x12,x13,x14,ps2,rfl,hla4,hl4,P4,n4,E4,k4⟩
   exact SqL.of (k4 _ _ hmk3 mkea mkla)
  ·rintro p v σ H4 t hv' ⟨x9,x10,x11,x12,x13,x14,ps2,rfl,hla4,hl4,P4,n4,E4,k4⟩ ht
   obtain ⟨one,rfl,hone⟩:=uA hv'
   have hpn':p<gd.length:=by have:=(List.getElem?_eq_some_iff.mp hone).1;rw [uv] at this;exact this
   rw [Vg hpn'] at hone
   have hone:=aO hone
   subst hone
   have sT:jn H4 (upd H4 t (.tup [.int (p:Int),.int (R-(p:Int))])):=jn.new ht
   have hla5:=sT _ _ hla4
   have P5:=P4.keep (jk.same sT) λz _ out h=>sT _ _ h
   have E5:=E4.keep (jk.same sT) λkvs h=>sT _ _ h
   have k5:∀a u,H3 a=some u->a≠ea->a≠la->(upd H4 t (.tup [.int (p:Int),.int (R-(p:Int))])) a=some u:=λa u h n1 n2=>sT _ _ (k4 a u h n1 n2)
   left
   refine ⟨t,_,rfl,SqT.of j5,rfl,?_⟩
   refine ⟨_,_,rfl,_,_,rfl,rfl,?_⟩
   left
   clear hla4 P4 E4 k4 ht sT
   generalize upd H4 t (.tup [.int (p:Int),.int (R-(p:Int))])=H5 at *
   have hpa5:=k5 _ _ hpa3 paea pala
   refine ⟨.inl ⟨_,.inr ⟨o,hpa5⟩⟩,?_⟩
   left
   refine ⟨aE _,λez H6 hez hez6 s6=>?_⟩
   left
   refine ⟨_,.inl ⟨_,.inl (R-(p:Int)),.inr ⟨o,s6 _ _ hpa5⟩,rfl,rfl⟩,?_⟩
   have P3':ju H6 ps cs:=P3.keep2 (ea:=ea) (pa:=la) (λa u h n1 n2=>s6 _ _ (k5 a u h n1 n2)) (λxs=>nds E3) ndl
   obtain ⟨ha,out,ev,hha,hro,ho8⟩:∃(ha:Addr) (out:List V),((jP (ps.map kvA) (.inl (R-(p:Int)))).getD (V.ref ez)) = .ref ha/\H6 ha=some (.lst out)/\jG H6 out (qq cs (R-(p:Int)))/\(qq cs (R-(p:Int))).length<=800:=by
    rcases ju.find P3' (R-(p:Int)) with ⟨e1,e2⟩ | ⟨a,out,e1,h1,h2,q,hq,eq⟩
    ·exact ⟨ez,[],by rw [e1];rfl,hez6,by rw [e2];exact .nil,by rw [e2];exact aE _⟩
    ·exact ⟨a,out,by rw [e1];rfl,h1,h2,by rw [<- eq];exact c800 q hq⟩
   rw [ev]
   left
   refine ⟨ha,out,rfl,.inl (SqL.of hha),λhd H7 hhd hhd7 s7=>?_⟩
   have s57:=s6.trans s7
   have hla7:=s57 _ _ hla5
   have P7:=P5.keep (jk.same s57) λz _ out h=>s57 _ _ h
   have E7:=E5.keep (jk.same s57) λkvs h=>s57 _ _ h
   have k7:∀a u,H3 a=some u->a≠ea->a≠la->H7 a=some u:=λa u h n1 n2=>s57 _ _ (k5 a u h n1 n2)
   have r7:=jG.same hro s7
   have f07:Fr3 (λa=>a=ea) (λa=>c.D a\/a=pa) H H7:=λa u ha na=>by
    have w:a≠la:=j1 ha hlaH
    rcases f03 a u ha na with h | ⟨m,ob,kvs,eo,h⟩
    ·exact .inl (k7 a u h na w)
    ·exact .inr ⟨m,ob,kvs,eo,k7 a _ h na w⟩
   have S7:=S.keep f07 (λa xs h=>eaN h (by walk_at "w")) (eaN S.sd (by walk_at "w")) (λz=>z.elim S.nD λw=>pasd w.symm) (eaN S.p (by walk_at "w")) (eaN S.q (by walk_at "w")) (eaN S.gl (by walk_at "w")) (eaN S.ll (by walk_at "w")) (λa ha=>by
    obtain ⟨i,hi⟩:=List.mem_iff_getElem?.mp ha
    obtain ⟨w,_,ga,e,hga⟩:=Paired.get S.gi hi
    cases e
    exact eaN hga (by walk_at "w")) (by rcases S.sg with h | ⟨ob,h⟩ <;> exact eaN h (by walk_at "w")) (λx hx=>by rcases S.ld x hx with h | ⟨ob,h⟩ <;> exact eaN h (by walk_at "w"))
   have hw7:zD H7 c.sk wr:=hw.keep λa xs h=>f07.at h (eaN h (by walk_at "w")) (by walk_at "w")
   obtain ⟨ga,ega,hga⟩:=gAt S7
   left
   refine ⟨sd,c,y,wr,rfl,S7,hw7,t1,t2,λtr htr=>?_⟩
   left
   refine ⟨sd,.ref c.gl,rfl,by rw [<- yb c.p c.q c.sg c.gl c.ll];exact xo.k (k:=.inr "grounds") S7.sd,?_⟩
   left
   refine ⟨_,_,_,_,rfl,rfl,SqL.of S7.gl,ega,?_⟩
   left
   refine ⟨_,_,_,_,rfl,rfl,SqL.of hga,x3 (v:=V.int (gd.getD p 0)) () (by rw [bw,ax,ak,ae hpn'];rfl),?_⟩
   left
   refine ⟨tr,_,_,rfl,htr,?_⟩
   left
   have hmp:=hmelt p hpn'
   have hb1:=Vh (sg y) (gd.getD p 0)
   have hb2:=UX (sg y) (gd.getD p 0)
   clear S7 hw7 htr hga ega hmelt hoff
   generalize hwsh:chg (zg wr c.ts y) (gd.getD p 0)=wsh at *
   generalize hold:qq cs (R-(p:Int))=hs at *
   refine ⟨_,_,rfl,?_⟩
   left
   have hmx:((if wsh > 0 then wsh else 0).toNat)=wsh.toNat:=by split <;> omega
   refine ⟨by split <;> omega,by split <;> omega,?_⟩
   rw [hmx]
   refine qU (λj σ H8=>∃(x13:Option V) (o8:List V),σ=[some (.ref sd),some (.int l),some (.ref pa),some (.int y),some (.ref ea),some (.ref mk),some (.ref la),x7,x8,some (.int (p:Int)),some (.int (R-(p:Int))),some (.ref hd),some (.int wsh),x13,x14]/\H8 hd=some (.lst o8)/\jG H8 o8 (hs++(aF j).map (λk:Nat=>(y,(p:Int),(k:Int))))/\Ext hd H7 H8) ?_ ?_ ?_
   ·exact ⟨_,out,rfl,hhd7,by rw [mi,eR,bp];exact r7,λc o h _=>h⟩
   ·rintro j σ H8 hj ⟨x13',o8,rfl,h8,r8,e8⟩
    have ol:=r8.length
    rw [aq,ah,bg] at ol
    left
    refine ⟨.inl ⟨rfl,_,SqL.of h8⟩,?_⟩
    left
    refine ⟨by show 3<=sizeLine;decide,λq H9 hq hq9 s9=>?_⟩
    rw [dU] at hq9
    left
    refine ⟨hd,o8,_,rfl,rfl,s9 _ _ h8,jj (),?_⟩
    refine ⟨_,o8++[.ref q],rfl,j5,?_,λc u hc nc=>by rw [j6 nc];exact s9 _ _ (e8 c u hc nc)⟩
    rw [cj,aA,<- eJ]
    exact cP (jG.keep (jG.same r8 s9) λa xs z=>by rw [j6 (ji z (s9 _ _ h8) (by walk_at "z"))];exact z) ⟨q,rfl,by rw [j6 (j1 h8 hq).symm];exact hq9⟩
   rintro σ H8 ⟨x13',o8,rfl,h8,r8,e8⟩
   have ol:=r8.length
   have hl2:(hs++(aF wsh.toNat).map (λk:Nat=>(y,(p:Int),(k:Int)))).length=hs.length+wsh.toNat:=by rw [aq,ah,bg]
   rw [hl2] at ol
   have E8:qo G H8 ea (n+90000+1000*p):=E7.keep (λa xs h=>e8 _ _ h (ji h hhd7 (by walk_at "z"))) λkvs h=>e8 _ _ h (ji h hhd7 (by walk_at "z"))
   left
   refine ⟨_,_,rfl,.inl (SqL.of h8),?_⟩
   left
   refine ⟨_,_,rfl,?_⟩
   left
   refine ⟨_,_,rfl,?_⟩
   left
   have hcn:∃cn:Int,(if (if 0-wsh > 0 then 0-wsh else 0)<(o8.length:Int) then (if 0-wsh > 0 then 0-wsh else 0) else (o8.length:Int))=cn/\0<=cn/\cn<=(o8.length:Int)/\(0<wsh->cn.toNat=0)/\(¬0<wsh->cn.toNat=min hs.length (- wsh).toNat):=by
    refine ⟨_,rfl,?_⟩
    by_cases z:0-wsh > 0
    ·rw [if_pos z]
     split <;> (refine ⟨?_,?_,?_,?_⟩ <;> omega)
    ·rw [if_neg z]
     split <;> (refine ⟨?_,?_,?_,?_⟩ <;> omega)
   obtain ⟨cn,ecn,cn0,cnl,cn1,cn2⟩:=hcn
   rw [ecn]
   refine ⟨(),(),?_⟩
   refine qU (λj σ H10=>∃x14':Option V,σ=[some (.ref sd),some (.int l),some (.ref pa),some (.int y),some (.ref ea),some (.ref mk),some (.ref la),x7,x8,some (.int (p:Int)),some (.int (R-(p:Int))),some (.ref hd),some (.int wsh),x13',x14']/\H10 hd=some (.lst (o8.take (o8.length-j)))/\qo G H10 ea (n+90000+1000*p+j)/\∀a u,H8 a=some u->a≠hd->a≠ea->H10 a=some u) ?_ ?_ ?_
   ·exact ⟨_,rfl,by rw [oO,aZ];exact h8,E8,λa u h _ _=>h⟩
   ·rintro j σ H10 hj ⟨x14',rfl,h10,E10,k10⟩
    have hjl:j<o8.length:=()
    have hng:wsh<0:=()
    have hw0:wsh.toNat=0:=()
    rw [hw0] at ol
    rw [hw0,mi,eR,bp] at r8
    obtain ⟨v,hv⟩:∃v,o8[o8.length-1-j]? = some v:=⟨_,ae ()⟩
    obtain ⟨h,hh,b,rfl,hb⟩:=jG.get r8 hv
    have hb10:=k10 _ _ hb (ji hb h8 (by walk_at "z")) (λw=>(nds E8).2 (w ▸ hb))
    have hjw:j<(- wsh).toNat/\j<hs.length:=by have:=cn2 ();omega
    have hG:=hmp j hjw.1 hjw.2 h (by rw [show hs.length=o8.length by omega];exact hh)
    left
    refine ⟨by show 4<=sizeLine;decide,λt4 H11 ht4 ht411 s11=>?_⟩
    rw [dU] at ht411
    have h11:=s11 _ _ h10
    have e1d:(o8.take (o8.length-j)).dropLast=o8.take (o8.length-(j+1)):=by
     rw [List.dropLast_eq_take,aM,List.take_take]
     congr 1
     omega
    have e1v:(o8.take (o8.length-j))[(o8.take (o8.length-j)).length-1]? = some (.ref b):=by
     rw [aM,nO,if_pos (),show min (o8.length-j) o8.length-1=o8.length-1-j by omega]
     exact hv
    left
    refine ⟨.inl ⟨rfl,_,SqL.of h11⟩,hd,_,_,rfl,rfl,h11,e1v,?_⟩
    rw [e1d]
    have nT:∀{a:Addr} {u:HO},H11 a=some u->(∀xs,u≠.lst xs)->(upd H11 hd (.lst (o8.take (o8.length-(j+1))))) a=some u:=λh d=>by
     rw [j6 (ji h h11 (d _))]
     exact h
    obtain ⟨kvs,e1,e2,e3⟩:=(E10.keep (jk.same s11) λkvs h=>s11 _ _ h).keep (H':=upd H11 hd (.lst (o8.take (o8.length-(j+1))))) (λa xs h=>nT h (by walk_at "w")) λkvs h=>nT h (by walk_at "w")
    refine ⟨ea,_,rfl,vn.t (k:=vX h) e1 (nT (s11 _ _ hb10) (by walk_at "w")) (by rw [bt];omega),?_⟩
    refine ⟨_,rfl,?_,qo.put e1 e2 e3 (nT ht411 (by walk_at "w")) hG,λa u ha n1 n2=>by rw [j6 n2,j6 n1];exact s11 _ _ (k10 a u ha n1 n2)⟩
    rw [j6 (ji j5 e1 (by walk_at "z"))]
    exact j5
   rintro σ H10 ⟨x14',rfl,h10,E10,k10⟩
   have hdla:hd≠la:=(j1 (s6 _ _ hla5) hhd).symm
   have hdea:hd≠ea:=by
    obtain ⟨kvs,h,_⟩:=E5
    exact (j1 (s6 _ _ h) hhd).symm
   have up:∀{a:Addr} {u:HO},H5 a=some u->a≠ea->H10 a=some u:=λh n1=>k10 _ _ (e8 _ _ (s57 _ _ h) (j1 (s6 _ _ h) hhd)) (j1 (s6 _ _ h) hhd) n1
   have hla10:=up hla5 laea
   have hdH:H hd=none:=by
    cases e:H hd with
    | none=>rfl
    | some u =>
     rcases f03 hd u e hdea with h | ⟨_,ob,kvs,_,h⟩
     ·rw [s6 _ _ (k5 _ _ h hdea hdla)] at hhd
      cases hhd
     ·rw [s6 _ _ (k5 _ _ h hdea hdla)] at hhd
      cases hhd
   have P10:=P5.keep (H':=H10) (λa xs h=>up h λw=>(nds E5).2 (w ▸ h)) λz _ out h=>up h λw=>(nds E5).1 (w ▸ h)
   have r10:jG H10 (o8.take (o8.length-cn.toNat)) (zJ hs y (p:Int) wsh):=by
    rw [<- Zk hs y (p:Int) wsh cn1 cn2,hl2,<- ol]
    exact jG.keep (wq _ r8) λa xs h=>k10 _ _ h (ji h h8 (by walk_at "z")) λw=>(nds E8).2 (w ▸ h)
   left
   refine ⟨la,_,rfl,vn.k (k:=.inl (R-(p:Int))) hla10 (by rw [ah];exact jj ()),?_⟩
   rw [zP _ (ju.none P10 λq hq=>by
    obtain ⟨k',hk',rfl⟩:=List.mem_map.mp hq
    have:=List.mem_range.mp hk'
    show R-(k':Int)≠R-(p:Int)
    omega)]
   have nL:∀{a:Addr} {u v:HO},H10 a=some u->(∀kvs,u≠.dK kvs)->(upd H10 la v) a=some u:=λh d=>by
    rw [j6 (ji h hla10 (d _))]
    exact h
   refine ⟨_,_,_,_,_,_,ps2++[(R-(p:Int),hd)],rfl,by rw [j5,aA];rfl,by rw [aq,hl4];rfl,?_,λz hz=>?_,(E10.keep (λa xs h=>nL h (by walk_at "w")) λkvs h=>nL h (by walk_at "w")).mono (),λa u h n1 n2=>by rw [j6 n2];exact up (k5 a u h n1 n2) n1⟩
   ·rw [cj,aA]
    show ju _ _ (_++[(R-(p:Int),zJ (qq cs (R-(p:Int))) y (p:Int) (chg (zg wr c.ts y) (gd.getD p 0)))])
    rw [hold,hwsh]
    exact ju.snoc (P10.keep (λa xs h=>nL h (by walk_at "w")) λz _ out h=>nL h (by walk_at "w")) (nL h10 (by walk_at "w")) (jG.keep r10 λa xs h=>nL h (by walk_at "w"))
   ·rcases List.mem_append.mp hz with h | h
    ·exact n4 z h
    ·rw [List.mem_singleton.mp h]
     exact hdH
  ·rintro σ H4 ⟨x9,x10,x11,x12,x13,x14,ps2,rfl,hla4,hl4,P4,n4,E4,k4⟩
   rw [ah,uv] at P4 E4
   left
   exact k la ps2 H4 hlaH hla4 P4 n4 (E4.mono ()) λa u ha na=>by
    have w:a≠la:=j1 ha hlaH
    rcases f03 a u ha na with h | ⟨m,ob,kvs,eo,h⟩
    ·exact .inl (k4 a u h na w)
    ·exact .inr ⟨m,ob,kvs,eo,k4 a _ h na w⟩
noncomputable def qh (dn:List (Int×Int)) (gd:List Int) (wr:List (Int×T3)) (ts:List T3):Nat->List (Int×List T3)
 | 0=>[]
 | i+1=>(aF gd.length).map λp:Nat=>((i:Int)+jf dn (i:Int)-(p:Int),zJ (qq (qh dn gd wr ts i) ((i:Int)+jf dn (i:Int)-(p:Int))) (i:Int) (p:Int) (chg (zg wr ts (i:Int)) (gd.getD p 0)))
theorem Zj (dn:List (Int×Int)) (gd:List Int) (wr:List (Int×T3)) (ts:List T3):∀i,(qh dn gd wr ts i).length<=gd.length
 | 0=>aE _
 | i+1=>by
  show (rQ _ _).length<=_
  rw [ah,bg]
  exact ao _
theorem Q0 (dn:List (Int×Int)) (gd:List Int) (wr:List (Int×T3)) (ts:List T3):∀i,((qh dn gd wr ts i).map (·.1)).Nodup
 | 0=>.nil
 | i+1=>by
  show ((rQ _ _).map _).Nodup
  rw [bP]
  refine oI _ (λa b h=>?_) (oY (n:=gd.length))
  show (i:Int)+jf dn (i:Int)-(a:Int)≠(i:Int)+jf dn (i:Int)-(b:Int)
  omega
theorem YA {hs:List T3}{y p w:Int}(h:w<=9):(zJ hs y p w).length<=hs.length+9:=by
 unfold zJ
 split
 ·rw [aq,ah,bg]
  omega
 ·rw [aM]
  omega
theorem Yx {cs:List (Int×List T3)}{n:Nat}(h:∀q∈cs,q.2.length<=n) (m:Int):(qq cs m).length<=n:=by
 unfold qq
 cases e:cs.find? λq=>decide (q.1=m) with
 | none=>exact aE _
 | some q=>exact h q (iW e)
theorem Z5 {dn:List (Int×Int)}{gd:List Int}{wr:List (Int×T3)}{ts:List T3}(sg:∀z,good (zg wr ts z)=true):∀i,∀q∈qh dn gd wr ts i,q.2.length<=9*i
 | 0,q,h=>nomatch h
 | i+1,q,h=>by
  obtain ⟨p,_,rfl⟩:=List.mem_map.mp h
  have h1:=YA (hs:=qq (qh dn gd wr ts i) ((i:Int)+jf dn (i:Int)-(p:Int))) (y:=(i:Int)) (p:=(p:Int)) (Vh (sg (i:Int)) (gd.getD p 0))
  have h2:=Yx (Z5 (dn:=dn) (gd:=gd) sg i) ((i:Int)+jf dn (i:Int)-(p:Int))
  show (zJ _ _ _ _).length<=_
  omega
theorem ju.keys {H:Hp}:∀{ps:List (Int×Addr)}{cs:List (Int×List T3)},ju H ps cs->ps.map (·.1)=cs.map (·.1)
 | _,_,.nil=>rfl
 | _,_,.cons ⟨e,_⟩ r=>by rw [aJ,aJ,e,ju.keys r]
noncomputable def Yk (G:List Key->List V->Prop) (dn:List (Int×Int)) (gd:List Int) (wr:List (Int×T3)) (ts:List T3) (i:Nat):Prop :=
 (∀q∈qh dn gd wr ts i,¬q.1∈xU ((i:Int)+jf dn (i:Int)) gd.length->∀h∈q.2,G (vX h) [.str "off",.int (i:Int)]) /\
 ∀p:Nat,p<gd.length->∀k:Nat,k<(- chg (zg wr ts (i:Int)) (gd.getD p 0)).toNat->k<(qq (qh dn gd wr ts i) ((i:Int)+jf dn (i:Int)-(p:Int))).length->∀h,(qq (qh dn gd wr ts i) ((i:Int)+jf dn (i:Int)-(p:Int)))[(qq (qh dn gd wr ts i) ((i:Int)+jf dn (i:Int)-(p:Int))).length-1-k]? = some h->G (vX h) [.str "melt",.int (i:Int),.int (p:Int),.int (k:Int)]
noncomputable def Z6 (H:Hp) (ds:List V) (n:Nat) (W:Nat->List (Int×List T3)) (ok:Addr->Prop):Prop:=ds.length=n/\∀k<n,∃d ps,ds[k]? = some (V.ref d)/\Rd H d (.dK (ps.map kvA))/\ju H ps (W (k+1))/\∀z∈ps,ok z.2
noncomputable def Yg:Sp:=λvs H Q _=>∃(sd:Addr) (c:ScN) (g:IceG) (l last:Int) (wy:List Int) (da:Addr) (dn:List (Int×Int)) (wr:List (Int×T3)) (G:List Key->List V->Prop),vs=[.ref sd,.int l,.int last]/\ScAt H sd c/\LaneF c g l wy da dn/\zD H c.sk wr/\1<=c.ts.length/\c.ts.length<=1000/\(∀z,good (zg wr c.ts z)=true) /\ -1<=last/\last<88 /\
 (∀i:Nat,(i:Int)<=last->Yk G dn (jc c.rs wy) wr c.ts i) /\
 ∀(t fo ea:Addr) (ds:List V) (H':Hp),H t=none->H fo=none->H ea=none->H' t=some (.tup [.ref fo,.ref ea])->H' fo=some (.lst ds)->Z6 H' ds (last+1).toNat (qh dn (jc c.rs wy) wr c.ts) (λa=>H a=none)->qo G H' ea 16000000->FrM c.D H H'->Q (.ref t) H'
theorem xq:FnScope ["_law_scene_here","_law_lane","_law_last","_law_ends","_law_piles","_law_found","_law_year_here"] ["_law_scene_here","_law_lane","_law_last"] (j8 vq):=by walk_at "s"
theorem VQ {f:Addr}{fd:FuncData}(nb:Nb2 mg) (c_law_year_of:Cal P w K mg base 3 "_law_year_of" ["_law_scene_here","_law_lane","_law_piles","_law_year_here","_law_ends"] JB)
  (F:Fun K "_law_walk" "_law_walk" vq f fd):FnOk P w K mg base CX0 4 f fd ["_law_scene_here","_law_lane","_law_last"] Yg:=by
 refine F.ok xq (λvs H Q E h=>?_) (λcdv A outer s H vs Q E hr h=>?_)
 ·obtain ⟨sd,c,g,l,last,wy,da,dn,wr,G,rfl,_⟩:=h
  rfl
 ·obtain ⟨sd,c,g,l,last,wy,da,dn,wr,G,rfl,S,LF,hw,t1,t2,sg,last0,last9,hE,k⟩:=h
  have g30:=LF.g30
  refine ⟨_,(j4 (jx 3 xq.nd YE)
   (j4 (jx 4 xq.nd zM)
   (j4 (jx 5 xq.nd (jZ j2))
   (j4 (qv aW rfl (qd rfl nb.b_range (j0 (jr jN (pv 2) j7) j2)) (jb (i:=6) xq.nd rfl (aP rfl)) (j4 (jx 4 xq.nd (jg c_law_year_of (hr.mono ⋯) rfl (j0 (pv 0) (j0 (pv 1) (j0 (pv 4) (j0 (pv 6) (j0 (pv 3) j2)))))))
   (j9 (jY (y3 K bz bD bE qA (pv 5) (j0 (pv 4) j2))))))
   (j9 (jm (qK (j0 (pv 5) (j0 (pv 3) j2))))))))),?_⟩
  left
  intro ea hea
  have hea1:(upd H ea (.dT [])) ea=some (.dT []):=j5
  have f1:FrM c.D H (upd H ea (.dT [])):=(FrM.of_same (jn.refl H)).put hea
  generalize upd H ea (.dT [])=H1 at *
  left
  intro pa0 hpa0
  have hpa0H:=f1.no hpa0
  have hpa2:(upd H1 pa0 (.dK [])) pa0=some (.dK []):=j5
  have hea2:(upd H1 pa0 (.dK [])) ea=some (.dT []):=by rw [j6 (j1 hea1 hpa0)];exact hea1
  have f2:FrM c.D H (upd H1 pa0 (.dK [])):=f1.put hpa0H
  clear hea1 hpa0 f1
  generalize upd H1 pa0 (.dK [])=H2 at *
  left
  refine ⟨aE _,λfo H3 hfo hfo3 s3=>?_⟩
  have hfoH:H fo=none:=f2.no hfo
  left
  refine ⟨(),(),?_⟩
  refine qU (λi σ H6=>∃(x6:Option V) (pa:Addr) (ps:List (Int×Addr)) (ds:List V),σ=[some (.ref sd),some (.int l),some (.int last),some (.ref ea),some (.ref pa),some (.ref fo),x6]/\H pa=none/\H6 pa=some (.dK (ps.map kvA))/\ju H6 ps (qh dn (jc c.rs wy) wr c.ts i)/\H6 fo=some (.lst ds)/\Z6 H6 ds i (qh dn (jc c.rs wy) wr c.ts) (λa=>a≠fo/\H a=none)/\qo G H6 ea (120000*i)/\FrM c.D H H6) ?_ ?_ ?_
  ·refine ⟨_,pa0,[],[],rfl,hpa0H,s3 _ _ hpa2,.nil,hfo3,⟨rfl,λk hk=>nomatch hk⟩,⟨[],s3 _ _ hea2,aE _,λk v h=>nomatch h⟩,f2.trans (FrM.of_same s3)⟩
  ·clear f2 hfo hfo3 s3 hpa2 hea2
   rintro i σ H6 hi ⟨x6,pa,ps,ds,rfl,hpaH,hpa6,P6,hfo6,D6,E6,f6⟩
   have hil:(i:Int)<=last:=()
   have hi8:i<88:=()
   have S6:=S.frM f6
   have hw6:=hw.keep (FrM.keepT f6)
   have hk:=ju.keys P6
   have hpl:ps.length<=100:=by
    have h1:=congrArg mB hk
    have h2:=Zj dn (jc c.rs wy) wr c.ts i
    rw [ah,ah] at h1
    omega
   left
   rw [dU]
   refine ⟨sd,c,g,l,(i:Int),wy,da,dn,wr,pa,ea,ps,_,120000*i,G,rfl,S6,LF,hw6,t1,t2,sg,hpa6,(j1 S.sd hpaH).symm,hk ▸ Q0 dn (jc c.rs wy) wr c.ts i,hpl,P6,λq hq=>by have:=Z5 sg i q hq;omega,E6,(),(hE i hil).1,(hE i hil).2,λla ps2 H7 hla hla7 P7 n7 E7 f7=>?_⟩
   have hlaH:=f6.no hla
   have laf:la≠fo:=(j1 hfo6 hla).symm
   have foea:fo≠ea:=by
    obtain ⟨kvs,h,_⟩:=E6
    exact ji hfo6 h (by walk_at "z")
   have nea:∀{a:Addr} {u:HO},H6 a=some u->(∀kvs,u≠.dT kvs)->¬a=ea:=λh d w=>by
    obtain ⟨kvs,h1,_⟩:=E6
    rw [w,h1] at h
    exact d kvs (aO h).symm
   have hfo7:=f7.at hfo6 foea (by walk_at "w")
   have f07:FrM c.D H H7:=λa u ha=>by
    have w1:a≠ea:=j1 ha hea
    have w2:a≠pa:=j1 ha hpaH
    rcases f6 a u ha with h | ⟨m,ob,kvs,eo,h⟩
    ·rcases f7 a u h w1 with h' | ⟨m,ob,kvs,eo,h'⟩
     ·exact .inl h'
     ·exact .inr ⟨m.resolve_right w2,ob,kvs,eo,h'⟩
    ·exact .inr ⟨m,ob,kvs,eo,f7.at h w1 (by walk_at "w")⟩
   have D7:∀k<i,∃d ps,ds[k]? = some (V.ref d)/\Rd H7 d (.dK (ps.map kvA))/\ju H7 ps (qh dn (jc c.rs wy) wr c.ts (k+1))/\∀z∈ps,z.2≠fo/\H z.2=none:=λk hk=>by
    obtain ⟨d,ps',h1,h2,h3,h4⟩:=D6.2 k hk
    refine ⟨d,ps',h1,f7.rd (by rcases h2 with h | ⟨ob,h⟩ <;> exact nea h (by walk_at "w")) h2,h3.keep (λa xs h=>f7.at h (nea h (by walk_at "w")) (by walk_at "w")) λz _ out h=>f7.at h (nea h (by walk_at "w")) (by walk_at "w"),h4⟩
   have n7':∀z∈ps2,z.2≠fo/\H z.2=none:=λz hz=>⟨(j1 hfo6 (n7 z hz)).symm,f6.no (n7 z hz)⟩
   have dsl:=D6.1
   clear D6 f7 hpa6 P6 S6 hw6 hk hpl nea
   left
   refine ⟨.inl ⟨rfl,_,SqL.of hfo7⟩,?_⟩
   left
   refine ⟨_,_,_,rfl,rfl,hfo7,jj (),?_⟩
   have nF:∀{a:Addr} {u v:HO},H7 a=some u->(∀xs,u≠.lst xs)->(upd H7 fo v) a=some u:=λh d=>by
    rw [j6 (ji h hfo7 (d _))]
    exact h
   have pF:∀{v:HO} {ps:List (Int×Addr)} {cs:List (Int×List T3)},ju H7 ps cs->(∀z∈ps,z.2≠fo/\H z.2=none)->ju (upd H7 fo v) ps cs:=λh d=>h.keep (λa xs h=>nF h (by walk_at "w")) λz hz out h=>by rw [j6 (d z hz).1];exact h
   refine ⟨_,la,ps2,ds++[.ref la],rfl,hlaH,nF hla7 (by walk_at "w"),pF P7 n7',j5,⟨by rw [aq,dsl];rfl,λk hk=>?_⟩,(E7.keep (λa xs h=>nF h (by walk_at "w")) λkvs h=>nF h (by walk_at "w")).mono (),f07.put hfoH⟩
   by_cases z:k<i
   ·obtain ⟨d,ps',h1,h2,h3,h4⟩:=D7 k z
    exact ⟨d,ps',by rw [c8 ()];exact h1,h2.imp (λh=>nF h (by walk_at "w")) λ⟨ob,h⟩=>⟨ob,nF h (by walk_at "w")⟩,pF h3 h4,h4⟩
   ·have e:k=i:=()
    subst e
    exact ⟨la,ps2,by rw [bK (),dsl,oC];rfl,.inl (nF hla7 (by walk_at "w")),pF P7 n7',n7'⟩
  ·rintro σ H6 ⟨x6,pa,ps,ds,rfl,hpaH,hpa6,P6,hfo6,D6,E6,f6⟩
   left
   refine ⟨by show 2<=sizeLine;decide,λt H7 ht ht7 s7=>?_⟩
   refine k t fo ea ds H7 (f6.no ht) hfoH hea ht7 (s7 _ _ hfo6) ⟨D6.1,λk hk=>?_⟩ ((E6.keep (jk.same s7) λkvs h=>s7 _ _ h).mono ()) (f6.trans (FrM.of_same s7))
   obtain ⟨d,ps',h1,h2,h3,h4⟩:=D6.2 k hk
   exact ⟨d,ps',h1,h2.imp (λh=>s7 _ _ h) λ⟨ob,h⟩=>⟨ob,s7 _ _ h⟩,h3.keep (jk.same s7) λz _ out h=>s7 _ _ h,λz hz=>(h4 z hz).2⟩
theorem Qp {R m:Int}{f:Nat->List T3}:∀{n:Nat},qq ((aF n).map λp:Nat=>(R-(p:Int),f p)) m=if 0<=R-m/\R-m<(n:Int) then f (R-m).toNat else []:=λ{n}=>by
 unfold qq
 by_cases z:0<=R-m/\R-m<(n:Int)
 ·rw [if_pos z]
  have e:((aF n).map λp:Nat=>(R-(p:Int),f p)).find? (λq=>decide (q.1=m))=some (m,f (R-m).toNat):=by
   rw [List.find?_map]
   have e2:(aF n).find? ((λq:Int×List T3=>decide (q.1=m)) ∘ λp:Nat=>(R-(p:Int),f p))=some (R-m).toNat:=by
    rw [List.find?_range_eq_some]
    refine ⟨?_,List.mem_range.mpr (),λj hj=>?_⟩
    ·show decide (R-(((R-m).toNat:Nat):Int)=m)=true
     exact decide_eq_true ()
    ·show (!decide (R-(j:Int)=m))=true
     rw [decide_eq_false ()]
     rfl
   rw [e2]
   show some (R-(((R-m).toNat:Nat):Int),_)=_
   rw [show R-(((R-m).toNat:Nat):Int)=m by omega]
  rw [e]
  rfl
 ·rw [if_neg z]
  have e:((aF n).map λp:Nat=>(R-(p:Int),f p)).find? (λq=>decide (q.1=m))=none:=by
   rw [iS]
   intro q hq
   obtain ⟨p,hp,rfl⟩:=List.mem_map.mp hq
   have:=List.mem_range.mp hp
   rw [decide_eq_true_eq]
   show ¬R-(p:Int)=m
   omega
  rw [e]
  rfl
theorem kh (dn:List (Int×Int)) (gd:List Int) (wr:List (Int×T3)) (ts:List T3) (i:Nat) (m:Int):qq (qh dn gd wr ts (i+1)) m=if 0<=(i:Int)+jf dn (i:Int)-m/\(i:Int)+jf dn (i:Int)-m<(gd.length:Int) then zJ (qq (qh dn gd wr ts i) m) (i:Int) ((i:Int)+jf dn (i:Int)-m) (xT dn gd wr ts m (i:Int)) else []:=by
 show qq ((aF gd.length).map λp:Nat=>((i:Int)+jf dn (i:Int)-(p:Int),zJ (qq (qh dn gd wr ts i) ((i:Int)+jf dn (i:Int)-(p:Int))) (i:Int) (p:Int) (chg (zg wr ts (i:Int)) (gd.getD p 0)))) m=_
 rw [Qp (f:=λp:Nat=>zJ (qq (qh dn gd wr ts i) ((i:Int)+jf dn (i:Int)-(p:Int))) (i:Int) (p:Int) (chg (zg wr ts (i:Int)) (gd.getD p 0)))]
 by_cases z:0<=(i:Int)+jf dn (i:Int)-m/\(i:Int)+jf dn (i:Int)-m<(gd.length:Int)
 ·rw [if_pos z,if_pos z]
  have e:((((i:Int)+jf dn (i:Int)-m).toNat:Nat):Int)=(i:Int)+jf dn (i:Int)-m:=()
  show zJ (qq (qh dn gd wr ts i) ((i:Int)+jf dn (i:Int)-((((i:Int)+jf dn (i:Int)-m).toNat:Nat):Int))) _ ((((i:Int)+jf dn (i:Int)-m).toNat:Nat):Int) _=_
  rw [e,show (i:Int)+jf dn (i:Int)-((i:Int)+jf dn (i:Int)-m)=m by omega]
  rfl
 ·rw [if_neg z,if_neg z]
theorem YS {hs:List T3}{y p w d:Int}(hd:(hs.length:Int)=d):((zJ hs y p w).length:Int)=d+(if w > - d then w else-d):=by
 unfold zJ
 by_cases z:0<w
 ·rw [if_pos z,if_pos (show w > - d by omega),aq,ah,bg]
  omega
 ·rw [if_neg z,aM]
  split <;> omega
theorem vF {dn ms:List (Int×Int)}{gd:List Int}{wr:List (Int×T3)}{ts:List T3}(hp:ms.Perm dn) (hs:(ms.map (·.1)).Pairwise (· <= ·)) (nd:(dn.map (·.1)).Nodup) (pos:∀q∈dn,0<=q.1/\0<=q.2) (m:Int) :
  ∀j:Nat,j<=(ja 0 0 ms (m+(gd.length:Int))-ja 0 0 ms m).toNat->((qq (qh dn gd wr ts ((ja 0 0 ms m).toNat+j)) m).length:Int)=x5 ms gd wr ts m (ja 0 0 ms m) j:=by
 have f0:=qM hp hs pos m
 have sper:=λy=>qR hp y
 intro j
 induction j with
 | zero =>
  intro _
  have e:qq (qh dn gd wr ts ((ja 0 0 ms m).toNat+0)) m=[]:=by
   rw [Nat.add_zero]
   cases h:(ja 0 0 ms m).toNat with
   | zero=>rfl
   | succ i =>
    rw [kh,if_neg]
    intro z
    have:=(xk hp hs nd pos m (gd.length:Int) (i:Int) ()).mp z
    omega
  rw [e]
  rfl
 | succ j ih =>
  intro hj
  have ih2:=ih ()
  have ey:(((ja 0 0 ms m).toNat+j:Nat):Int)=ja 0 0 ms m+(j:Int):=()
  have hon:=(xk hp hs nd pos m (gd.length:Int) (((ja 0 0 ms m).toNat+j:Nat):Int) ()).mpr ()
  have eat:=kh dn gd wr ts ((ja 0 0 ms m).toNat+j) m
  rw [if_pos hon] at eat
  have ew:xT dn gd wr ts m (((ja 0 0 ms m).toNat+j:Nat):Int)=xT ms gd wr ts m (ja 0 0 ms m+(j:Int)):=by
   rw [ey]
   unfold xT plc
   rw [sper]
  rw [<- su,eat,YS ih2,ew]
  rfl
theorem Yh {hs:List T3}{y p w:Int}{b:Nat}(h:b<(zJ hs y p w).length):(b<hs.length/\(zJ hs y p w)[b]? = hs[b]?)\/(hs.length<=b/\(zJ hs y p w)[b]? = some (y,p,(b:Int)-(hs.length:Int))):=by
 unfold zJ at h ⊢
 by_cases z:0<w
 ·rw [if_pos z] at h ⊢
  rw [aq,ah,bg] at h
  by_cases hb:b<hs.length
  ·exact .inl ⟨hb,c8 hb⟩
  ·refine .inr ⟨(),?_⟩
   rw [bK (),ax,cZ ()]
   show some (y,p,((b-hs.length:Nat):Int))=_
   rw [show ((b-hs.length:Nat):Int)=(b:Int)-(hs.length:Int) by omega]
 ·rw [if_neg z] at h ⊢
  rw [aM] at h
  refine .inl ⟨(),?_⟩
  rw [nO,if_pos ()]
theorem kZ {dn ms:List (Int×Int)}{gd:List Int}{wr:List (Int×T3)}{ts:List T3}(hp:ms.Perm dn) (hs:(ms.map (·.1)).Pairwise (· <= ·)) (nd:(dn.map (·.1)).Nodup) (pos:∀q∈dn,0<=q.1/\0<=q.2) (m:Int) :
  ∀j:Nat,j<=(ja 0 0 ms (m+(gd.length:Int))-ja 0 0 ms m).toNat->∀b:Nat,b<(qq (qh dn gd wr ts ((ja 0 0 ms m).toNat+j)) m).length->∃i,i<j/\x5 ms gd wr ts m (ja 0 0 ms m) i<=(b:Int)/\(∀k,i<k->k<=j->(b:Int)<x5 ms gd wr ts m (ja 0 0 ms m) k)/\(qq (qh dn gd wr ts ((ja 0 0 ms m).toNat+j)) m)[b]? = some (ja 0 0 ms m+(i:Int),plc ms m (ja 0 0 ms m+(i:Int)),(b:Int)-x5 ms gd wr ts m (ja 0 0 ms m) i):=by
 have f0:=qM hp hs pos m
 intro j
 induction j with
 | zero =>
  intro _ b hb
  have:=vF (gd:=gd) (wr:=wr) (ts:=ts) hp hs nd pos m 0 (aE _)
  have e:x5 ms gd wr ts m (ja 0 0 ms m) 0=0:=rfl
  omega
 | succ j ih =>
  intro hj b hb
  have hd:=vF (gd:=gd) (wr:=wr) (ts:=ts) hp hs nd pos m j ()
  have hd1:=vF (gd:=gd) (wr:=wr) (ts:=ts) hp hs nd pos m (j+1) hj
  have ey:(((ja 0 0 ms m).toNat+j:Nat):Int)=ja 0 0 ms m+(j:Int):=()
  have hon:=(xk hp hs nd pos m (gd.length:Int) (((ja 0 0 ms m).toNat+j:Nat):Int) ()).mpr ()
  have eat:=kh dn gd wr ts ((ja 0 0 ms m).toNat+j) m
  rw [if_pos hon] at eat
  rw [<- su] at hd1 hb ⊢
  rw [eat] at hb hd1 ⊢
  rcases Yh hb with ⟨h1,h2⟩ | ⟨h1,h2⟩
  ·obtain ⟨i,a1,a2,a3,a4⟩:=ih () b h1
   refine ⟨i,(),a2,λk k1 k2=>?_,by rw [h2,a4]⟩
   by_cases e:k=j+1
   ·rw [e]
    omega
   ·exact a3 k k1 ()
  ·refine ⟨j,(),(),λk k1 k2=>?_,?_⟩
   ·rw [show k=j+1 by omega]
    omega
   ·rw [h2,hd,ey]
    unfold plc
    rw [qR hp]
theorem Zs {dn:List (Int×Int)}{gd:List Int}{wr:List (Int×T3)}{ts:List T3}{i n:Nat}(h:n<gd.length):(qh dn gd wr ts (i+1))[n]? = some ((i:Int)+jf dn (i:Int)-(n:Int),qq (qh dn gd wr ts (i+1)) ((i:Int)+jf dn (i:Int)-(n:Int))):=by
 have e:qq (qh dn gd wr ts (i+1)) ((i:Int)+jf dn (i:Int)-(n:Int))=_:=Qp (R:=(i:Int)+jf dn (i:Int)) (m:=(i:Int)+jf dn (i:Int)-(n:Int)) (n:=gd.length) (f:=λp:Nat=>zJ (qq (qh dn gd wr ts i) ((i:Int)+jf dn (i:Int)-(p:Int))) (i:Int) (p:Int) (chg (zg wr ts (i:Int)) (gd.getD p 0)))
 rw [e,if_pos (),show ((i:Int)+jf dn (i:Int)-((i:Int)+jf dn (i:Int)-(n:Int))).toNat=n by omega]
 show ((aF gd.length).map _)[n]? = _
 rw [ax,cZ h]
 rfl
noncomputable def GE (ms dn:List (Int×Int)) (gd:List Int) (wr:List (Int×T3)) (ts:List T3) (k:List Key) (xs:List V):Prop:=∃(h:T3) (q0:Q4),k=vX h/\0<=h.1/\h.1<=100/\0<=h.2.1/\h.2.1<(gd.length:Int)/\0<=h.2.2/\((qg ms gd wr ts (h.1+jf dn h.1-h.2.1)).drop (h.1-ja 0 0 ms (h.1+jf dn h.1-h.2.1)).toNat)[0]? = some q0/\h.2.2<q0.2.2.1/\xs=wv ((qg ms gd wr ts (h.1+jf dn h.1-h.2.1)).drop (h.1-ja 0 0 ms (h.1+jf dn h.1-h.2.1)).toNat) (q0.2.2.2-q0.2.2.1+h.2.2)
theorem XT {dn ms:List (Int×Int)}{gd:List Int}{wr:List (Int×T3)}{ts:List T3}(hp:ms.Perm dn) (hs:(ms.map (·.1)).Pairwise (· <= ·)) (nd:(dn.map (·.1)).Nodup) (pos:∀q∈dn,0<=q.1/\0<=q.2) {m b:Int}{j i0:Nat}{xs:List V}(hj:j<=(ja 0 0 ms (m+(gd.length:Int))-ja 0 0 ms m).toNat) (a1:i0<j) (a2:x5 ms gd wr ts m (ja 0 0 ms m) i0<=b) (a3:∀k,i0<k->k<=j->b<x5 ms gd wr ts m (ja 0 0 ms m) k) (hy:ja 0 0 ms m+(i0:Int)<=100) (hx:xs=wv ((qg ms gd wr ts m).drop i0) b):GE ms dn gd wr ts (vX (ja 0 0 ms m+(i0:Int),plc ms m (ja 0 0 ms m+(i0:Int)),b-x5 ms gd wr ts m (ja 0 0 ms m) i0)) xs:=by
 have f0:=qM hp hs pos m
 have C:=wY ms gd wr ts m
 have at_:=C.at_ i0 ()
 have st:=C.step i0
 have b1:=a3 (i0+1) () ()
 have epl:plc ms m (ja 0 0 ms m+(i0:Int))=ja 0 0 ms m+(i0:Int)+jf dn (ja 0 0 ms m+(i0:Int))-m:=by
  unfold plc
  rw [qR hp]
 have on:=(xk hp hs nd pos m (gd.length:Int) (ja 0 0 ms m+(i0:Int)) ()).mpr ()
 have em:ja 0 0 ms m+(i0:Int)+jf dn (ja 0 0 ms m+(i0:Int))-plc ms m (ja 0 0 ms m+(i0:Int))=m:=()
 have ei:(ja 0 0 ms m+(i0:Int)-ja 0 0 ms m).toNat=i0:=()
 refine ⟨_,(ja 0 0 ms m+(i0:Int),plc ms m (ja 0 0 ms m+(i0:Int)),(qL ms gd wr ts m (ja 0 0 ms m) i0).2.2.1,x5 ms gd wr ts m (ja 0 0 ms m) (i0+1)),rfl,?_,hy,?_,?_,?_,?_,?_,?_⟩
 ·show 0<=ja 0 0 ms m+(i0:Int)
  omega
 ·show 0<=plc ms m (ja 0 0 ms m+(i0:Int))
  omega
 ·show plc ms m (ja 0 0 ms m+(i0:Int))<_
  omega
 ·show 0<=b-x5 ms gd wr ts m (ja 0 0 ms m) i0
  omega
 ·show ((qg ms gd wr ts (ja 0 0 ms m+(i0:Int)+jf dn (ja 0 0 ms m+(i0:Int))-plc ms m (ja 0 0 ms m+(i0:Int)))).drop _)[0]? = _
  rw [em]
  show ((qg ms gd wr ts m).drop (ja 0 0 ms m+(i0:Int)-ja 0 0 ms m).toNat)[0]? = _
  rw [ei,dR]
  exact at_
 ·show b-x5 ms gd wr ts m (ja 0 0 ms m) i0<(qL ms gd wr ts m (ja 0 0 ms m) i0).2.2.1
  omega
 ·show xs=wv ((qg ms gd wr ts (ja 0 0 ms m+(i0:Int)+jf dn (ja 0 0 ms m+(i0:Int))-plc ms m (ja 0 0 ms m+(i0:Int)))).drop (ja 0 0 ms m+(i0:Int)-ja 0 0 ms (ja 0 0 ms m+(i0:Int)+jf dn (ja 0 0 ms m+(i0:Int))-plc ms m (ja 0 0 ms m+(i0:Int)))).toNat) (x5 ms gd wr ts m (ja 0 0 ms m) (i0+1)-(qL ms gd wr ts m (ja 0 0 ms m) i0).2.2.1+(b-x5 ms gd wr ts m (ja 0 0 ms m) i0))
  rw [em,ei,hx,show x5 ms gd wr ts m (ja 0 0 ms m) (i0+1)-(qL ms gd wr ts m (ja 0 0 ms m) i0).2.2.1+(b-x5 ms gd wr ts m (ja 0 0 ms m) i0)=b by rw [st];omega]
theorem YL {dn ms:List (Int×Int)}{gd:List Int}{wr:List (Int×T3)}{ts:List T3}(hp:ms.Perm dn) (hs:(ms.map (·.1)).Pairwise (· <= ·)) (nd:(dn.map (·.1)).Nodup) (pos:∀q∈dn,0<=q.1/\0<=q.2) {i:Nat}(hi:i<=100):Yk (GE ms dn gd wr ts) dn gd wr ts i:=by
 refine ⟨λq hq hn h hh=>?_,λp hp' k hk hkl h hh=>?_⟩
 ·cases i with
  | zero=>cases hq
  | succ n =>
   obtain ⟨p,hpl,eq⟩:=List.mem_map.mp hq
   have hpl:=List.mem_range.mp hpl
   have hg:=Zs (dn:=dn) (gd:=gd) (wr:=wr) (ts:=ts) (i:=n) hpl
   have hg2:(qh dn gd wr ts (n+1))[p]? = some q:=by
    show ((aF gd.length).map _)[p]? = _
    rw [ax,cZ hpl]
    exact congrArg some eq
   rw [hg2] at hg
   have hg:=aO hg
   have ep:(n:Int)+jf dn (n:Int)-((n:Int)+jf dn (n:Int)-(p:Int))=(p:Int):=()
   rw [hg] at hn hh
   have hn:¬((n:Int)+jf dn (n:Int)-(p:Int))∈_:=hn
   have hh:h∈qq (qh dn gd wr ts (n+1)) ((n:Int)+jf dn (n:Int)-(p:Int)):=hh
   have on:=(xk hp hs nd pos ((n:Int)+jf dn (n:Int)-(p:Int)) (gd.length:Int) (n:Int) ()).mp ()
   have on2:=(xk hp hs nd pos ((n:Int)+jf dn (n:Int)-(p:Int)) (gd.length:Int) ((n+1:Nat):Int) ()).mpr
   have mono:=wQ (λq hq=>(pos q hq).2) (show (n:Int)<=((n+1:Nat):Int) by omega)
   rw [Zw] at hn
   generalize (n:Int)+jf dn (n:Int)-(p:Int)=m at *
   have f0:=qM hp hs pos m
   have C:=wY ms gd wr ts m
   obtain ⟨j,hj⟩:∃j:Nat,(ja 0 0 ms (m+(gd.length:Int))-ja 0 0 ms m).toNat=j:=⟨_,rfl⟩
   have eij:(ja 0 0 ms m).toNat+j=n+1:=()
   obtain ⟨b,hb⟩:=List.mem_iff_getElem?.mp hh
   have hw:=kZ (gd:=gd) (wr:=wr) (ts:=ts) hp hs nd pos m j ()
   rw [eij] at hw
   obtain ⟨i0,a1,a2,a3,a4⟩:=hw b (List.getElem?_eq_some_iff.mp hb).1
   rw [hb] at a4
   rw [aO a4]
   refine XT hp hs nd pos (j:=j) () a1 a2 a3 () ?_
   have hL:=C.len
   have hnone:((qg ms gd wr ts m).drop i0).find? (λq=>decide (q.2.2.2<=(b:Int)))=none:=by
    rw [iS]
    intro x hx
    obtain ⟨r,hr⟩:=List.mem_iff_getElem?.mp hx
    rw [dR] at hr
    have hrl:=(List.getElem?_eq_some_iff.mp hr).1
    rw [C.at_ (i0+r) ()] at hr
    rw [<- aO hr,decide_eq_true_eq]
    have:=a3 (i0+r+1) () ()
    show ¬x5 ms gd wr ts m (ja 0 0 ms m) (i0+r+1)<=_
    omega
   unfold wv
   rw [hnone]
   have hl:((qg ms gd wr ts m).drop i0).getLastD (0,0,0,0)=(ja 0 0 ms m+((j-1:Nat):Int),plc ms m (ja 0 0 ms m+((j-1:Nat):Int)),(qL ms gd wr ts m (ja 0 0 ms m) (j-1)).2.2.1,x5 ms gd wr ts m (ja 0 0 ms m) (j-1+1)):=by
    rw [iX,List.getLast?_drop,if_neg (),iY,show (qg ms gd wr ts m).length-1=j-1 by omega,C.at_ (j-1) ()]
    rfl
   dsimp only
   rw [hl]
   show [V.str "off",.int ((n+1:Nat):Int)]=[V.str "off",.int (ja 0 0 ms m+((j-1:Nat):Int)+1)]
   rw [show ja 0 0 ms m+((j-1:Nat):Int)+1=((n+1:Nat):Int) by omega]
 ·have ep:(i:Int)+jf dn (i:Int)-((i:Int)+jf dn (i:Int)-(p:Int))=(p:Int):=()
  have on:=(xk hp hs nd pos ((i:Int)+jf dn (i:Int)-(p:Int)) (gd.length:Int) (i:Int) ()).mp ()
  generalize (i:Int)+jf dn (i:Int)-(p:Int)=m at *
  have f0:=qM hp hs pos m
  have C:=wY ms gd wr ts m
  obtain ⟨j,hj⟩:∃j:Nat,((i:Int)-ja 0 0 ms m).toNat=j:=⟨_,rfl⟩
  have eij:(ja 0 0 ms m).toNat+j=i:=()
  have hd:=vF (gd:=gd) (wr:=wr) (ts:=ts) hp hs nd pos m j ()
  have hw:=kZ (gd:=gd) (wr:=wr) (ts:=ts) hp hs nd pos m j ()
  rw [eij] at hd hw
  obtain ⟨i0,a1,a2,a3,a4⟩:=hw _ (show (qq (qh dn gd wr ts i) m).length-1-k<_ by omega)
  rw [hh] at a4
  rw [aO a4]
  have ew:xT ms gd wr ts m (ja 0 0 ms m+(j:Int))=chg (zg wr ts (i:Int)) (gd.getD p 0):=by
   unfold xT plc
   rw [show ja 0 0 ms m+(j:Int)=(i:Int) by omega,qR hp,ep,bw]
  have hmv:(qL ms gd wr ts m (ja 0 0 ms m) j).2.2.1=if xT ms gd wr ts m (ja 0 0 ms m+(j:Int)) > - x5 ms gd wr ts m (ja 0 0 ms m) j then xT ms gd wr ts m (ja 0 0 ms m+(j:Int)) else-x5 ms gd wr ts m (ja 0 0 ms m) j:=rfl
  rw [ew] at hmv
  have st:=C.step j
  have epl:plc ms m (ja 0 0 ms m+(j:Int))=(p:Int):=by
   unfold plc
   rw [qR hp,show ja 0 0 ms m+(j:Int)=(i:Int) by omega]
   exact ep
  refine XT hp hs nd pos (j:=j) () a1 a2 a3 () ?_
  have hfind:=yt (rows:=(qg ms gd wr ts m).drop i0) (b:=(((qq (qh dn gd wr ts i) m).length-1-k:Nat):Int)) (i:=j-i0) (by rw [dR,show i0+(j-i0)=j by omega];exact C.at_ j ()) (λr x hr hx=>by
   rw [dR,C.at_ (i0+r) ()] at hx
   rw [<- aO hx]
   have:=a3 (i0+r+1) () ()
   show ¬x5 ms gd wr ts m (ja 0 0 ms m) (i0+r+1)<=_
   omega) (by
   show x5 ms gd wr ts m (ja 0 0 ms m) (j+1)<=_
   rw [st]
   show _+(qL ms gd wr ts m (ja 0 0 ms m) j).2.2.1<=_
   rw [hmv]
   split <;> omega)
  unfold wv
  rw [hfind]
  show _=[V.str "melt",.int (ja 0 0 ms m+(j:Int)),.int (plc ms m (ja 0 0 ms m+(j:Int))),.int (x5 ms gd wr ts m (ja 0 0 ms m) (j+1)-(qL ms gd wr ts m (ja 0 0 ms m) j).2.2.1-1-(((qq (qh dn gd wr ts i) m).length-1-k:Nat):Int))]
  have st':x5 ms gd wr ts m (ja 0 0 ms m) (j+1)=x5 ms gd wr ts m (ja 0 0 ms m) j+(qL ms gd wr ts m (ja 0 0 ms m) j).2.2.1:=st
  rw [show ja 0 0 ms m+(j:Int)=(i:Int) by omega] at epl ⊢
  rw [epl,show x5 ms gd wr ts m (ja 0 0 ms m) (j+1)-(qL ms gd wr ts m (ja 0 0 ms m) j).2.2.1-1-(((qq (qh dn gd wr ts i) m).length-1-k:Nat):Int)=(k:Int) by omega]
noncomputable def wn (G:List Key->List V->Prop) (H:Hp) (kvs:List (List Key×V)) (v:V):Prop:=∃(b t:Addr) (k:List Key) (xs:List V),v=V.ref b/\H b=some (.tup (k.map kV))/\jP kvs k=some (V.ref t)/\H t=some (.tup xs)/\G k xs
theorem wn.keep {G:List Key->List V->Prop}{H H':Hp}{kvs:List (List Key×V)}{v:V}(h:wn G H kvs v) (t:jk H H'):wn G H' kvs v:=by
 obtain ⟨b,t',k,xs,e,h1,h2,h3,h4⟩:=h
 exact ⟨b,t',k,xs,e,t _ _ h1,h2,t _ _ h3,h4⟩
theorem eqv2 {a b c d:Int}(h:nH (.tuple [.int a,.int b]) (.tuple [.int c,.int d])=true):a=c/\b=d:=by
 simp [nH,PyData.eqvAll] at h
 exact h
theorem YC (rows:List Q4) (b:Int):∃ds:List d8,(∀H,DatL H (wv rows b) ds)/\yF 2 (.tuple ds)=true:=by
 unfold wv
 split
 ·exact ⟨[.str "melt",.int _,.int _,.int _],λH=>.cons (.str _) (.cons (.int _) (.cons (.int _) (.cons (.int _) .nil))),rfl⟩
 ·exact ⟨[.str "off",.int _],λH=>.cons (.str _) (.cons (.int _) .nil),rfl⟩
theorem Z0 (a b:Int):ou (.tuple [.int a,.int b])=true:=by rfl
theorem xB:FnScope ["_law_script","_law_box_here","_law_scene_here","_law_ice","_law_lane","_law_last","_law_found","_law_ends","_law_hands","_law_turn","_law_year_here","_law_place","_law_layer","_law_hand"] ["_law_script"] (j8 yx):=by walk_at "s"
theorem Wm {f C CN CP CY CB Pt:Addr}{fd:FuncData}(nb:Nb2 mg)
  (c_law_box:Cal P w K mg base 1 "_law_box" ["_law_script"] (Vd K)) (c_law_take:Cal P w K mg base 2 "_law_take" ["_law_box_here","_law_size"] zk) (c_law_scene:Cal P w K mg base 5 "_law_scene" ["_law_box_here"] Za) (c_law_made:Cal P w K mg base 10 "_law_made" ["_law_scene_here"] (YY C Pt))
  (c_law_walk:Cal P w K mg base 4 "_law_walk" ["_law_scene_here","_law_lane","_law_last"] Yg) (c_law_alike:Cal P w K mg base 3 "_law_alike" ["_law_found","_law_due"] (Um 2)) (c_end_of:CalX P w K mg base 6 "end_of" ["ice","lane","place","year","layer"] (XS C CN CP CY CB))
  (F:Fun K "law" "law" yx f fd):FnOk P w K mg base CX0 11 f fd ["_law_script"] (QY K Pt):=by
 refine F.ok xB (λvs H Q E h=>?_) (λcdv A outer s H vs Q E hr h=>?_)
 ·obtain ⟨a,ns,rfl,_⟩:=h
  rfl
 ·obtain ⟨a,ns,rfl,hS,h63,hPt,k⟩:=h
  have T0:qB H Pt:=.inl hPt
  refine ⟨_,(j4 (jx 1 xB.nd (jg c_law_box (hr.mono ⋯) rfl (j0 (pv 0) j2)))
   (j4 (jx 2 xB.nd (jg c_law_scene (hr.mono ⋯) rfl (j0 (pv 1) j2)))
   (j4 (jx 3 xB.nd (jg c_law_made (hr.mono ⋯) rfl (j0 (pv 2) j2)))
   (j4 (jx 4 xB.nd (jg c_law_take (hr.mono ⋯) rfl (j0 (pv 1) (j0 (je (jh K) rfl nb.b_len aV (j0 (jI (jQ hr) (pv 2) jB (λ_ _=>rfl)) j2)) j2))))
   (j4 (yy (i:=5) xB.nd rfl (fW rfl) (jg c_law_take (hr.mono ⋯) rfl (j0 (pv 1) (j0 j7 j2))))
   (j4 (zh (jg c_law_walk (hr.mono ⋯) rfl (j0 (pv 2) (j0 (pv 4) (j0 (jr jN (jr jN (pv 5) (je (jh K) rfl nb.b_len aV (j0 (js (jd K) (jI (jQ hr) (pv 2) jB (λ_ _=>rfl)) (pv 4) (λ_ _=>rfl)) j2))) j7) j2)))) (qx (n:=2) K rfl (jo (jb (i:=6) xB.nd rfl (aP rfl)) (jo (jb (i:=7) xB.nd rfl (aP rfl)) qw))))
   (j4 (J7 (j:=8) (osc:=(j8 yx)) (ON:=["_law_script","_law_box_here","_law_scene_here","_law_ice","_law_lane","_law_last","_law_found","_law_ends","_law_hands","_law_turn","_law_year_here","_law_place","_law_layer","_law_hand"]) (N:=["_law_hand","_law_last"]) (own:=1) (caps:=[5]) ⟨rfl,∅,∅,∅,rfl,∅⟩ xB.nd rfl (aP rfl) rfl rfl rfl (YR (pv 7)) (λ_ _ _ _ _=>(jb (i:=0) (show bc (["_law_hand","_law_last"]:List Str) by decide +kernel) rfl (aP rfl))) (λ_ _ _ _ _=>(zO (jD qk (js (qC K) (pv 0) j7 (λ_ _=>rfl)) (pv 1) (jK _)))) (λ_ _ _ _ _=>(pv 0)))
   (j4 (qv aW rfl (qd rfl nb.b_range (j0 j7 j2)) (jb (i:=9) xB.nd rfl (aP rfl)) (j9 (qc (jD Uy (je (jh K) rfl nb.b_len aV (j0 (pv 8) j2)) j7 (jK _)) (j4 (zh (js (jd K) (pv 8) (jg c_law_take (hr.mono ⋯) rfl (j0 (pv 1) (j0 (je (jh K) rfl nb.b_len aV (j0 (pv 8) j2)) j2))) (λ_ _=>rfl)) (qx (n:=3) K rfl (jo (jb (i:=10) xB.nd rfl (fW rfl)) (jo (jb (i:=11) xB.nd rfl (fW rfl)) (jo (jb (i:=12) xB.nd rfl (aP rfl)) qw)))))
   (j9 (qv aW rfl (jT K (jS (osc:=(j8 yx)) (ON:=["_law_script","_law_box_here","_law_scene_here","_law_ice","_law_lane","_law_last","_law_found","_law_ends","_law_hands","_law_turn","_law_year_here","_law_place","_law_layer","_law_hand"]) (N:=["_law_one","_law_year_here","_law_place"]) (own:=1) (caps:=[10,11]) ⟨rfl,∅,∅,∅,rfl,∅⟩ rfl rfl rfl (jT K (pv 8)) (λ_ _ _ _ _=>(jb (i:=0) (show bc (["_law_one","_law_year_here","_law_place"]:List Str) by decide +kernel) rfl (aP rfl))) (λ_ _ _ _ _=>(zO (jD (Ub K hr.units) (vG (Qe K) (pv 0) wc (w5 j7)) (qK (j0 (pv 1) (j0 (pv 2) j2))) (jK _)))) (λ_ _ _ _ _=>(pv 0)))) (jb (i:=13) xB.nd rfl (aP rfl)) (j9 (qc (xl (ya (jg c_law_alike (hr.mono ⋯) rfl (j0 (jg c_end_of.cal (hr.mono ⋯) rfl (j0 (pv 3) (j0 (pv 4) (j0 (pv 11) (j0 (pv 10) (j0 (js (qC K) (pv 13) j7 (λ_ _=>rfl)) j2)))))) (j0 (jI (jQ hr) (pv 7) (pv 13) (λ_ _=>rfl)) j2))))) (j9 (jm kT)) jw))))) jw)))
   (j9 (jm kT)))))))))),?_⟩
  left
  refine ⟨a,ns,rfl,hS,λL b H1 hb B1 s1=>?_⟩
  have T1:=T0.same s1
  left
  refine ⟨L,b,rfl,B1,λsd H2 c B2 X2 S2 O=>?_⟩
  have T2:=VI B1 X2 T1
  left
  refine ⟨sd,b,c,rfl,S2,O,T2,λp H3 g I3 F3 R3 T3 er et es ek el ld ny nd=>?_⟩
  have W3:Lw C L b sd p c g H2 H3:=Lw.start S2 O B2 T2 I3 F3 R3
  have kk:Lk c g:=⟨er,et,es,ek,el,ld,ny,nd⟩
  clear I3 R3 T3 er et es ek el ld ny nd
  have hw1:1<=c.ws.length:=by
   rw [O.ro.length]
   exact gH (qe O.gr.ok) O.l1
  have hw6:c.ws.length<=6:=by rw [O.ro.length];exact O.gr.heads
  have hg30:∀w∈c.ws,1<=(jc c.rs w).length/\(jc c.rs w).length<=30:=λw hw=>⟨wd O.gr O.ro hw,(uQ (O.gr.good O.l1 O.l8)).2.2.2 c.ws O.ro w hw⟩
  have hll:g.lds.length=g.slopes.length:=by rw [kk.ll,O.ldl,kk.sl,ah]
  have t1:=O.t1
  have t2:=O.t2
  obtain ⟨wr,hwr⟩:=zD.of W3.S.sk
  have wgood:=hwr.good W3.S.sk
  have sgood:=λy=>Vp wgood O.tg t1 y
  have hsz:c.ys.length=c.ts.length:=aX W3.S.r3
  have hzl:c.zs.length=c.ws.length:=(aX W3.S.gi).trans (ah _)
  have hsl:g.slopes.length=c.ws.length:=by rw [kk.sl,ah]
  have hgd:∀{H':Hp},ScAt H' sd c->xo H' sd (.str "grounds") (some (.ref c.gl)):=λS'=>by rw [<- yb c.p c.q c.sg c.gl c.ll];exact xo.k (k:=.inr "grounds") S'.sd
  left
  refine ⟨sd,.ref c.gl,rfl,hgd W3.S,?_⟩
  left
  refine ⟨c.gl,_,rfl,.inl (SqL.of W3.S.gl),?_⟩
  rw [hzl]
  left
  refine ⟨L,b,_,rfl,W3.B,⟨(),()⟩,λln H4 ln0 ln1 B4 X4=>?_⟩
  have W4:=W3.take B4 X4
  have hw4:=hwr.keep (zW W3.B X4)
  clear W3 hwr
  obtain ⟨wy,da,dn,LF⟩:=kk.lane O ln0 ()
  obtain ⟨ms,hp,hs⟩:=kI dn
  have g30:=LF.g30
  have g1:=LF.g1
  left
  refine ⟨L,b,_,rfl,W4.B,⟨⋯,⋯⟩,λlast H7 last0 last1 B7 X7=>?_⟩
  have W7:=W4.take B7 X7
  have hw7:=hw4.keep (zW W4.B X7)
  clear W4 hw4
  obtain ⟨ga,ega,hga⟩:=W7.S.gnd LF
  left
  refine ⟨sd,.ref c.gl,rfl,hgd W7.S,?_⟩
  left
  refine ⟨_,_,_,_,rfl,rfl,SqL.of W7.S.gl,ega,?_⟩
  left
  refine ⟨ga,_,rfl,.inl (SqL.of hga),?_⟩
  rw [ah]
  left
  refine ⟨sd,c,g,ln,last+((jc c.rs wy).length:Int)+1,wy,da,dn,wr,GE ms dn (jc c.rs wy) wr c.ts,rfl,W7.S,LF,hw7,t1,(),sgood,(),(),(λi hi=>YL hp hs LF.nd LF.pos ()),λt fo ea ds H8 ht hfo hea ht8 hfo8 D8 E8 f8=>?_⟩
  have W8:=W7.fr f8
  have hw8:=hw7.keep (FrM.keepT f8)
  have eab:=W7.B.ne hea
  have hw7':=hw7
  clear hw7 D8
  left
  refine ⟨t,_,rfl,SqT.of ht8,rfl,?_⟩
  refine ⟨_,_,rfl,_,_,rfl,rfl,?_⟩
  left
  obtain ⟨kvs,hea8,hkl,hG⟩:=E8
  refine ⟨ea,kvs,rfl,.inl ⟨hea8,λo acc hacc=>?_⟩⟩
  have f9:FrM c.D H7 (upd H8 ea (.frz o (.dT kvs))):=f8.put hea
  have kt9:jk H8 (upd H8 ea (.frz o (.dT kvs))):=λa xs h=>by rw [j6 (ji h hea8 (by walk_at "z"))];exact h
  have hea9:(upd H8 ea (.frz o (.dT kvs))) ea=some (.frz o (.dT kvs)):=j5
  generalize upd H8 ea (.frz o (.dT kvs))=H9 at *
  have hG:∀k v,jP kvs k=some v->∃t xs,v=V.ref t/\H9 t=some (.tup xs)/\GE ms dn (jc c.rs wy) wr c.ts k xs:=λk v h=>by
   obtain ⟨t,xs,e,h1,h2⟩:=hG k v h
   exact ⟨t,xs,e,kt9 _ _ h1,h2⟩
  have eacc:ea≠acc:=j1 hea9 hacc
  refine Xe (a:=ea) (o:=o) (kvs:=kvs) (acc:=acc) (λi σ H10=>∃(x:Option V) (vs:List V),σ=[x,some (.int last)]/\H10 acc=some (.lst vs)/\vs.length<=i/\(∀v∈vs,wn (GE ms dn (jc c.rs wy) wr c.ts) H10 kvs v)/\Ext acc H9 H10) ?_ ?_ ?_ ?_
  ·exact ⟨none,[],rfl,j5,ao _,(λv hv=>nomatch hv),Ext.put⟩
  ·rintro i σ H10 hi ⟨x,vs,rfl,h10,hl10,hv10,e10⟩
   exact e10 _ _ hea9 eacc
  ·rintro i q hb σ H10 hq hhb ⟨x,vs,rfl,h10,hl10,hv10,e10⟩
   obtain ⟨v,hval⟩:∃v,jP kvs q.1=some v:=Option.isSome_iff_exists.mp (by rw [<- zX,List.any_eq_true];exact ⟨q,aw hq,decide_eq_true rfl⟩)
   obtain ⟨t',xs,rfl,ht',hg⟩:=hG _ _ hval
   have hacc10:∀{a:Addr} {xs ys:List V},H10 a=some (.tup xs)->(upd H10 acc (.lst ys)) a=some (.tup xs):=λh=>by rw [j6 (ji h h10 (by walk_at "z"))];exact h
   have hi:i<kvs.length:=(List.getElem?_eq_some_iff.mp hq).1
   have ht10:=e10 _ _ ht' (j1 ht' hacc)
   obtain ⟨h,q0,ek,hrest⟩:=id hg
   have hhb3:H10 hb=some (.tup [.int h.1,.int h.2.1,.int h.2.2]):=by rw [show [V.int h.1,.int h.2.1,.int h.2.2]=q.1.map kV by rw [ek];rfl];exact hhb
   left
   refine qO (λz=>?_) (λz=>?_)
   ·left
    refine ⟨_,h10,by rw [bt];omega,_,vs++[.ref hb],rfl,j5,by rw [aq];exact cK hl10,λv hv=>?_,e10.trans Ext.put⟩
    rcases List.mem_append.mp hv with h | h
    ·exact (hv10 v h).keep λa xs h=>hacc10 h
    ·exact ⟨hb,t',q.1,_,List.mem_singleton.mp h,hacc10 hhb,hval,hacc10 ht10,hg⟩
   ·exact ⟨_,vs,rfl,h10,(),hv10,e10⟩
  rintro σ H10 ⟨x,vs,rfl,h10,hl10,hv10,e10⟩
  have hacc7:H7 acc=none:=f9.no hacc
  have f10:FrM c.D H7 H10:=f9.trans (FrM.of_same λc o hc=>e10 c o hc (j1 hc hacc))
  have W10:=W7.fr f10
  have hw10:=hw7'.keep (FrM.keepT f10)
  have hea10:=e10 _ _ hea9 eacc
  have accb:=W7.B.ne hacc7
  have hvl:vs.length<=16000000:=()
  clear e10 hG hea9 W7 hw7' f9 f10 f8 kt9 W8 hw8 hea8
  left
  refine ⟨⋯,⋯,?_⟩
  refine qU (λi σ H11=>∃v9 v10 v11 v12 v13:Option V,σ=[some (.ref a),some (.ref b),some (.ref sd),some (.ref p),some (.int ln),some (.int last),some (.ref fo),some (.ref ea),some (.ref acc),v9,v10,v11,v12,v13]/\Lw C L b sd p c g H2 H11/\zD H11 c.sk wr/\H11 acc=some (.lst vs)/\H11 ea=some (.frz o (.dT kvs))/\∀v∈vs,wn (GE ms dn (jc c.rs wy) wr c.ts) H11 kvs v) ?_ ?_ ?_
  ·exact ⟨_,_,_,_,_,rfl,W10,hw10,h10,hea10,hv10⟩
  ·clear W10 hw10 h10 hea10 hv10
   rintro i σ H11 hi ⟨v9,v10,v11,v12,v13,rfl,W11,hw11,hacc11,hea11,hv11⟩
   left
   refine ⟨acc,vs,rfl,.inl (SqL.of hacc11),?_⟩
   left
   refine qO (λz=>?_) (λz=>?_)
   ·left
    refine ⟨acc,vs,rfl,.inl (SqL.of hacc11),?_⟩
    left
    refine ⟨L,b,_,rfl,W11.B,⟨(),Int.lt_of_le_of_lt (show (vs.length:Int)<=16000000 by omega) ⋯⟩,λat_ H12 a0 a1 B12 X12=>?_⟩
    have W12:=W11.take B12 X12
    have kt12:=zW W11.B X12
    have hw12:=hw11.keep kt12
    have hacc12:=X12 _ _ hacc11 accb
    have hea12:=X12 _ _ hea11 eab
    have hv12:=λv hv=>(hv11 v hv).keep kt12
    clear W11 hw11 hacc11 hea11 hv11 kt12
    obtain ⟨v,hv⟩:∃v,vs[at_.toNat]? = some v:=⟨_,ae ()⟩
    obtain ⟨hb,t',k',xs,rfl,hhb,hval,ht',hg⟩:=hv12 v (aw hv)
    obtain ⟨h,q0,rfl,y0,y1,p0,p1,_⟩:=hg
    have hhb3:H12 hb=some (.tup [.int h.1,.int h.2.1,.int h.2.2]):=hhb
    have y40:h.1<=10 ^ 40:=oM y1 ⋯
    left
    refine ⟨_,_,_,_,rfl,rfl,SqL.of hacc12,x3 (v:=V.ref hb) a0 hv,?_⟩
    left
    refine ⟨hb,_,rfl,SqT.of hhb3,rfl,?_⟩
    refine ⟨_,_,rfl,_,_,rfl,_,_,rfl,rfl,?_⟩
    left
    refine ⟨⟨_,SqL.of hacc12⟩,λac2 hac2=>?_⟩
    refine qp (K:=K) (a:=acc) (xs:=vs) (acc:=ac2) (λi σ H13=>∃(x:Option V) (us:List V),σ=[x,some (.int h.1),some (.int h.2.1)]/\H13 ac2=some (.lst us)/\us.length<=i/\(∀u∈us,u∈vs/\∃(b':Addr) (l:Int),u=V.ref b'/\H12 b'=some (.tup [.int h.1,.int h.2.1,.int l]))/\Ext ac2 H12 H13) ?_ ?_ ?_ ?_
    ·exact ⟨none,[],rfl,j5,ao _,(λv hv=>nomatch hv),Ext.put⟩
    ·rintro i σ H13 hi ⟨x,us,rfl,h13,hl13,hu13,e13⟩
     exact SqL.of (e13 _ _ hacc12 (j1 hacc12 hac2))
    ·rintro i u σ H13 hu ⟨x,us,rfl,h13,hl13,hu13,e13⟩
     have hum:=aw hu
     have hi:=(List.getElem?_eq_some_iff.mp hu).1
     obtain ⟨b',t2,k2,xs2,rfl,hb',_,_,h',q',rfl,_⟩:=hv12 u hum
     have hb3:H12 b'=some (.tup [.int h'.1,.int h'.2.1,.int h'.2.2]):=hb'
     have hb13:=e13 _ _ hb3 (j1 hb3 hac2)
     left
     refine ⟨b',_,rfl,SqT.of hb13,(by show ¬(_/\(2:Nat)=3);exact λz=>absurd z.2 ⋯),λts H14 hts hts1 s14=>?_⟩
     have hts2:H14 ts=some (.tup [.int h'.1,.int h'.2.1]):=hts1
     left
     refine ⟨by show 2<=sizeLine;decide,λtu H15 htu htu1 s15=>?_⟩
     have h15:=s15 _ _ (s14 _ _ h13)
     have e15:Ext ac2 H12 H15:=λc o hc n=>s15 _ _ (s14 _ _ (e13 c o hc n))
     refine ⟨λ_=>False,λ_=>False,.tuple [.int h'.1,.int h'.2.1],.tuple [.int h.1,.int h.2.1],Dat.rep (λ_=>id) (.tup (s15 _ _ hts2) (.cons (.int _) (.cons (.int _) .nil))),Dat.rep (λ_=>id) (.tup htu1 (.cons (.int _) (.cons (.int _) .nil))),Z0 _ _,Z0 _ _,_,rfl,?_⟩
     cases eqq:nH (.tuple [.int h'.1,.int h'.2.1]) (.tuple [.int h.1,.int h.2.1]) with
     | false=>exact ⟨_,us,rfl,h15,(),hu13,e15⟩
     | true =>
      obtain ⟨eq1,eq2⟩:=eqv2 eqq
      rw [eq1,eq2] at hb3
      left
      refine ⟨_,h15,by rw [bt];omega,_,us++[.ref b'],rfl,j5,by rw [aq];exact cK hl13,λu hu'=>?_,e15.trans Ext.put⟩
      rcases List.mem_append.mp hu' with h1 | h1
      ·exact hu13 u h1
      ·rw [List.mem_singleton.mp h1]
       exact ⟨hum,b',_,rfl,hb3⟩
    rintro σ H13 ⟨x,us,rfl,h13,hl13,hu13,e13⟩
    have s13:jn H12 H13:=λc o hc=>e13 c o hc (j1 hc hac2)
    left
    refine ⟨⟨_,SqL.of h13⟩,?_⟩
    refine zL (K:=K) (a:=ac2) (xs:=us) (λj σ H14=>∃v13:Option V,σ=[some (.ref a),some (.ref b),some (.ref sd),some (.ref p),some (.int ln),some (.int last),some (.ref fo),some (.ref ea),some (.ref acc),some (.int (0+(i:Int))),some (.int h.1),some (.int h.2.1),some (.int h.2.2),v13]/\jn H13 H14) ?_ ?_ ?_ ?_
    ·exact ⟨_,rfl,jn.refl _⟩
    ·rintro j σ H14 hj ⟨v13,rfl,s14⟩
     exact SqL.of (s14 _ _ h13)
    ·rintro j u σ H14 hu ⟨v13,rfl,s14⟩
     have sA:=s13.trans s14
     obtain ⟨huv,b',l,rfl,hb'⟩:=hu13 u (aw hu)
     obtain ⟨b2,t2,k2,xs2,eb,hb2,hval2,ht2,h',q',rfl,hy0,hy1,hp0,hp1,hl0,hq',hl1,rfl⟩:=hv12 _ huv
     cases eb
     have hb3:H12 b'=some (.tup [.int h'.1,.int h'.2.1,.int h'.2.2]):=hb2
     rw [hb'] at hb3
     have e3:=HO.tup.inj (aO hb3)
     have e31:h.1=h'.1:=V.int.inj (fc e3).1
     have e32:h.2.1=h'.2.1:=V.int.inj (fc (fc e3).2).1
     have e33:l=h'.2.2:=V.int.inj (fc (fc (fc e3).2).2).1
     rw [e33,e31,e32] at hb'
     rw [<- e31,<- e32] at hq' ht2
     have hb14:=sA _ _ hb'
     obtain ⟨dd,hdd,hsm⟩:=YC ((qg ms (jc c.rs wy) wr c.ts (h.1+jf dn h.1-h.2.1)).drop (h.1-ja 0 0 ms (h.1+jf dn h.1-h.2.1)).toNat) (q'.2.2.2-q'.2.2.1+h'.2.2)
     left
     simp only [VX,bp]
     refine ⟨p,g,ln,h.2.1,h.1,h'.2.2,c.sk,wr,rfl,(W12.same sA).I,hll,kk.kv,hw12.keep (jk.same sA),by rw [kk.rows];exact t1,by rw [kk.rows];omega,(λhb=>absurd hb (by have:=LF.l0;have:=LF.l1;omega)),(λ_ _ hb=>absurd hb (by rw [LF.sl];omega)),λ_ _ _ _=>⟨dn,ms,LF.at_,(λq hq=>(LF.pos q hq).1),by rw [LF.sl];omega,hp,hs,(λH' _ hb=>absurd hb ()),λ_ _ q0' rows' er hq0'=>?_⟩⟩
     rw [LF.sl,kk.rows] at er
     subst er
     rw [hq'] at hq0'
     cases hq0'
     refine ⟨λhb=>absurd hb (),λ_ _ t3 H15 ht3 ht31 s15=>?_⟩
     have sB:=sA.trans s15
     left
     refine ⟨ea,.ref t2,rfl,.inr ⟨kvs,vX h',b',.inr ⟨o,sB _ _ hea12⟩,rfl,s15 _ _ hb14,hval2.symm⟩,?_⟩
     left
     refine ⟨_,_,.tuple dd,rfl,.tup ht31 (hdd _),.tup (sB _ _ ht2) (hdd _),hsm,λH16 s16=>?_⟩
     left
     exact s14.trans (s15.trans s16)
    ·rintro σ H14 ⟨v13,rfl,s14⟩
     have sA:=s13.trans s14
     exact ⟨_,_,_,_,_,rfl,W12.same sA,hw12.keep (jk.same sA),sA _ _ hacc12,sA _ _ hea12,λv hv=>(hv12 v hv).keep (jk.same sA)⟩
   ·exact ⟨_,_,_,_,_,rfl,W11,hw11,hacc11,hea11,hv11⟩
  ·rintro σ H11 ⟨v9,v10,v11,v12,v13,rfl,W11,hw11,hacc11,hea11,hv11⟩
   left
   exact k H11
end
local macro_rules | `(tactic| walk_at "1")=>`(tactic| exact fun _ _ _ _ _ _ _ hl=>bnd1 hl fun _=>rfl)
local macro_rules | `(tactic| walk_at "2")=>`(tactic| exact fun _ _ _ _ _ _ _ hl=>bnd2 hl fun _ _=>rfl)
local macro_rules | `(tactic| walk_at "3")=>`(tactic| exact fun _ _ _ _ _ _ _ hl=>bnd3 hl fun _ _ _=>rfl)
local macro_rules | `(tactic| walk_at "4")=>`(tactic| exact fun _ _ _ _ _ _ _ hl=>bnd4 hl fun _ _ _ _=>rfl)
local macro_rules | `(tactic| walk_at "5")=>`(tactic| exact fun _ _ _ _ _ _ _ hl=>bnd5 hl fun _ _ _ _ _=>rfl)
local macro_rules | `(tactic| walk_at "6")=>`(tactic| exact fun _ _ _ _ _ _ _ hl=>bnd6 hl fun _ _ _ _ _ _=>rfl)
theorem Wv {l:pN}{w:aU}{K:ag}{h:Heap}{mg:Str->Option af}{fa:Addr}(X:K.In h) (G:h.Ns mainGlobals mg) (hfa:mg "law" = some (.ref fa))
  {CI:Addr}
  {C0:Addr}
  {C1:Addr}
  {C2:Addr}
  {C3:Addr}
  {C4:Addr}
  {C5:Addr}
  {C6:Addr}
  {C7:Addr}
  {u0:Tok}
  {u1:Tok}
  {u2:Tok}
  {u3:Tok}
  {u4:Tok}
  {u5:Tok}
  {u6:Tok}
  {u7:Tok}
  {u8:Tok}
  {u9:Tok}
  {u10:Tok}
  (aCI:aR K mainGlobals "Ice" = some (some (.ref CI))) (pgI:eP K CI Str.empty=true) (hdI:fE K CI=true) (poI:l9 K CI=true) (saI:bF K (.ref CI) "__setattr__" = some (some (.builtin "object.__setattr__"))) (mkI:ma K CI=true) (kcI:bR K (.ref CI)=true)
  (na0:bF K (.ref CI) "valley" = some none)
  (na1:bF K (.ref CI) "cycle" = some none)
  (na2:bF K (.ref CI) "slopes" = some none)
  (na3:bF K (.ref CI) "years" = some none)
  (na4:bF K (.ref CI) "leaps" = some none)
  (a1:gN K "leads_on" vh)
  (a2:gN K "is_reach" yf)
  (a3:gN K "way_down" vg)
  (a4:aR K mainGlobals "lanes" = some (some (.ref f4))) (l4:K.lookup f4=some ⟨oc4,od4,.func (bB "lanes" "lanes" (qa qV) (jM qV) (j8 qV) .none kV4 dc4 pm4 an4 (.ref cL) ct4),sl4⟩) (c4:cB K (.ref cL) "lanes" = true) (k4:bR K (.ref f4)=true) (hdL:PySem.W.codeHdIn K cL 154=true)
  (a5:gN K "way_of" wk)
  (a6:gN K "count_places" xw)
  (a7:gN K "fits" Jv)
  (a8:gN K "is_valley" zp)
  (a9:gN K "heights" yK)
  (a10:gN K "is_weather" zY)
  (a11:gN K "change" wF)
  (a12:gN K "is_round" zZ)
  (a13:gN K "check_round" zH)
  (a14:gN K "check_told" y4)
  (a15:gM K CI "__init__" "Ice.__init__" qG)
  (a16:gM K CI "check_lane" "Ice.check_lane" xC)
  (a17:gM K CI "check_place" "Ice.check_place" xm)
  (a18:gM K CI "length" "Ice.length" zE)
  (a19:gM K CI "height" "Ice.height" zC)
  (a20:gM K CI "sky" "Ice.sky" vc)
  (a21:gM K CI "tell" "Ice.tell" yJ)
  (a22:gM K CI "surge" "Ice.surge" y9)
  (a23:gM K CI "surges" "Ice.surges" xH)
  (a24:gN K "check_asked" zF)
  (a25:gN K "ride_by" yL)
  (a26:gN K "earliest" vk)
  (a27:gN K "span" QR)
  (a28:gN K "ridden" wA)
  (a29:gN K "life" QF)
  (a30:gN K "parted" wB)
  (a31:gN K "end_of" wK)
  (a32:gN K "_law_box" uC)
  (a33:gN K "_law_mixed" yC)
  (a34:gN K "_law_take" vz)
  (a35:gN K "_law_whole" yA)
  (a36:gN K "_law_alike" xR)
  (a39:gN K "_law_weather" zI)
  (a40:gN K "_law_round" zo)
  (a41:gN K "_law_ground_drawn" qm)
  (a42:gN K "_law_reaches" xf)
  (a43:gN K "_law_roads" xN)
  (a44:gN K "_law_ground" y6)
  (a45:gN K "_law_year" vp)
  (a46:gN K "_law_scene" xQ)
  (a47:gN K "_law_made" vv)
  (a48:gN K "_law_row" uz)
  (a49:gN K "_law_wish" vw)
  (a50:gN K "_law_ride" yi)
  (a51:gN K "_law_marks" zx)
  (a52:gN K "_law_year_of" zB)
  (a53:gN K "_law_walk" vq)
  (a54:aR K mainGlobals "law" = some (some (.ref f54))) (l54:K.lookup f54=some ⟨oc54,od54,.func (bB "law" "law" (qa yx) (jM yx) (j8 yx) .none kV54 dc54 pm54 an54 cd54 ct54),sl54⟩) (c54:cB K cd54 "law" = true) (k54:bR K (.ref f54)=true)
  (ec0:gE K "BadValley" C0)
  (ec1:gE K "BadRound" C1)
  (ec2:gE K "NoLane" C2)
  (ec3:gE K "BadYear" C3)
  (ec4:gE K "BadWeather" C4)
  (ec5:gE K "BadSurge" C5)
  (ec6:gE K "NoPlace" C6)
  (ec7:gE K "BadHand" C7)
  (z0:aR K mainGlobals "len" = some none)
  (z1:aR K mainGlobals "range" = some none)
  (z2:aR K mainGlobals "isinstance" = some none)
  (z3:aR K mainGlobals "int" = some none)
  (z4:aR K mainGlobals "bool" = some none)
  (z5:aR K mainGlobals "str" = some none)
  (z6:aR K mainGlobals "list" = some none)
  (z7:aR K mainGlobals "tuple" = some none)
  (z8:aR K mainGlobals "min" = some none)
  (z9:aR K mainGlobals "max" = some none)
  (z10:aR K mainGlobals "all" = some none)
  (z11:aR K mainGlobals "zip" = some none)
  (z12:aR K mainGlobals "enumerate" = some none)
  (z13:aR K mainGlobals "sorted" = some none)
  (z14:aR K mainGlobals "sum" = some none)
  (z15:aR K mainGlobals "dict" = some none)
  (q0:aR K mainGlobals "MOST_REACHES" = some (some (.int 8 u0)))
  (q1:aR K mainGlobals "MOST_HEIGHTS" = some (some (.int 12 u1)))
  (q2:aR K mainGlobals "GREATEST_HEIGHT" = some (some (.int 99 u2)))
  (q3:aR K mainGlobals "MOST_LANES" = some (some (.int 6 u3)))
  (q4:aR K mainGlobals "LONGEST_LANE" = some (some (.int 30 u4)))
  (q5:aR K mainGlobals "HIGHEST_LINE" = some (some (.int 100 u5)))
  (q6:aR K mainGlobals "MOST_HANDS" = some (some (.int 9 u6)))
  (q7:aR K mainGlobals "MOST_ROWS" = some (some (.int 12 u7)))
  (q8:aR K mainGlobals "LAST_TOLD" = some (some (.int 99 u8)))
  (q9:aR K mainGlobals "LAST_ASKED" = some (some (.int 10000000000000000000000000000000000000000 u9)))
  (q10:aR K mainGlobals "GREATEST_SURGE" = some (some (.int 9 u10)))
  : ∃fd:FuncData,(∀(s:Shared) (v:af),pV s fd ⟨[v],[]⟩ [("_law_script",v)])/\∀base:Heap,K.In base->base.Ns mainGlobals mg->Bm mg base->FnOk l.prog w K mg base CX0 11 fa fd ["_law_script"] (QY K 154):=by
 have e:=hfa.symm.trans (bh X G a54)
 cases e
 have nb:Nb2 mg:={ b_len:=bf X G z0,b_range:=bf X G z1,b_isinstance:=bf X G z2,b_int:=bf X G z3,b_bool:=bf X G z4,b_str:=bf X G z5,b_list:=bf X G z6,b_tuple:=bf X G z7,b_min:=bf X G z8,b_max:=bf X G z9,b_all:=bf X G z10,b_zip:=bf X G z11,b_enumerate:=bf X G z12,b_sorted:=bf X G z13,b_sum:=bf X G z14 }
 have b_dict:=bf X G z15
 have g_MOST_REACHES:=bh X G q0
 have g_MOST_HEIGHTS:=bh X G q1
 have g_GREATEST_HEIGHT:=bh X G q2
 have g_MOST_LANES:=bh X G q3
 have g_LONGEST_LANE:=bh X G q4
 have g_HIGHEST_LINE:=bh X G q5
 have g_MOST_HANDS:=bh X G q6
 have g_MOST_ROWS:=bh X G q7
 have g_LAST_TOLD:=bh X G q8
 have g_LAST_ASKED:=bh X G q9
 have g_GREATEST_SURGE:=bh X G q10
 have e_BadValley:=bh X G ec0.e
 have x_BadValley:=ec0.x
 have e_BadRound:=bh X G ec1.e
 have x_BadRound:=ec1.x
 have e_NoLane:=bh X G ec2.e
 have x_NoLane:=ec2.x
 have e_BadYear:=bh X G ec3.e
 have x_BadYear:=ec3.x
 have e_BadWeather:=bh X G ec4.e
 have x_BadWeather:=ec4.x
 have e_BadSurge:=bh X G ec5.e
 have x_BadSurge:=ec5.x
 have e_NoPlace:=bh X G ec6.e
 have x_NoPlace:=ec6.x
 have e_BadHand:=bh X G ec7.e
 have x_BadHand:=ec7.x
 have cl_Ice:Cls K CI:=⟨pgI,hdI,poI,saI⟩
 have T_Ice:IceC K CI:=⟨cl_Ice,na0,na1,na2,na3,na4⟩
 refine ⟨bB "law" "law" (qa yx) (jM yx) (j8 yx) .none kV54 dc54 pm54 an54 cd54 ct54,λs v=>.of_eq rfl,λbase hKb _ hBm=>?_⟩
 have CH:=PySem.W.codeHd_of_K hKb hdL
 have z:Zt l.prog w K mg base:=⟨X,G⟩
 have c_leads_on:=a1.cal z (by walk_at "2") (JE)
 have c_is_reach:=a2.cal z (by walk_at "2") (JJ nb g_MOST_HEIGHTS g_GREATEST_HEIGHT c_leads_on)
 have c_way_down:=a3.cal z (by walk_at "2") (Qu nb)
 have c_lanes:Cal l.prog w K mg base 5 "lanes" ["reaches"] (vB K 154):=Cal.mkC (st:=qV) X G a4 l4 c4 k4 (by walk_at "1") (YN nb c_way_down CH hBm l4 c4)
 have c_way_of:=a5.calX z (by walk_at "2") (Zy nb e_NoLane x_NoLane c_lanes)
 have c_count_places:=a6.cal z (by walk_at "2") (uW nb)
 have c_fits:=a7.cal z (by walk_at "2") (VC nb g_MOST_LANES g_LONGEST_LANE c_count_places)
 have c_is_valley:=a8.cal z (by walk_at "1") (Jq nb g_MOST_REACHES c_is_reach c_lanes c_fits)
 have c_heights:=a9.calX z (by walk_at "2") (QO nb c_way_of)
 have c_is_weather:=a10.cal z (by walk_at "1") (kJ g_HIGHEST_LINE g_MOST_HANDS)
 have c_change:=a11.cal z (by walk_at "2") (Zz)
 have c_is_round:=a12.cal z (by walk_at "1") (JH nb.toNb g_MOST_ROWS c_is_weather)
 have c_check_round:=a13.calX z (by walk_at "1") (kj nb e_BadRound x_BadRound c_is_round)
 have c_check_told:=a14.calX z (by walk_at "1") (kR g_LAST_TOLD e_BadYear x_BadYear)
 have c_Ice:=a15.mak z mkI kcI aCI (by walk_at "3") (ui nb T_Ice e_BadValley x_BadValley c_is_valley c_check_round c_lanes c_heights.cal)
 have c_Ice__check_lane:=a16.calX z (by walk_at "2") (vy nb T_Ice e_NoLane x_NoLane)
 have c_Ice__check_place:=a17.calX z (by walk_at "3") (yR nb T_Ice e_NoPlace x_NoPlace cl_Ice c_Ice__check_lane)
 have c_Ice__length:=a18.calX z (by walk_at "2") (wI nb T_Ice cl_Ice c_Ice__check_lane)
 have c_Ice__height:=a19.calX z (by walk_at "3") (ko nb T_Ice cl_Ice c_Ice__check_place)
 have c_Ice__sky:=a20.cal z (by walk_at "2") (Q9 nb T_Ice)
 have c_Ice__tell:=a21.calX z (by walk_at "3") (Jw nb T_Ice e_BadWeather x_BadWeather c_check_told c_is_weather)
 have c_Ice__surge:=a22.calX z (by walk_at "4") (kM nb T_Ice cl_Ice g_GREATEST_SURGE e_BadSurge x_BadSurge c_Ice__check_lane c_check_told)
 have c_Ice__surges:=a23.calX z (by walk_at "2") (wD nb T_Ice cl_Ice c_Ice__check_lane)
 have c_check_asked:=a24.calX z (by walk_at "1") (wt g_LAST_ASKED e_BadYear x_BadYear)
 have c_ride_by:=a25.cal z (by walk_at "2") (Xv nb)
 have c_earliest:=a26.cal z (by walk_at "2") (JS nb)
 have c_span:=a27.calX z (by walk_at "3") (U6 cl_Ice c_Ice__surges c_Ice__length c_earliest)
 have c_ridden:=a28.calX z (by walk_at "3") (Zu cl_Ice c_Ice__surges c_check_asked c_ride_by)
 have c_life:=a29.calX z (by walk_at "3") (VH nb b_dict cl_Ice c_span c_Ice__surges c_ride_by c_change c_Ice__sky c_Ice__height)
 have c_parted:=a30.calX z (by walk_at "4") (ZU cl_Ice c_Ice__check_place c_ridden c_life)
 have c_end_of:=a31.calX z (by walk_at "5") (ZN e_BadHand x_BadHand c_parted)
 have c_law_box:=a32.cal z (by walk_at "1") (Wy nb.toNb)
 have c_law_mixed:=a33.cal z (by walk_at "2") (Vk)
 have c_law_take:=a34.cal z (by walk_at "2") (VE nb.toNb c_law_mixed)
 have c_law_whole:=a35.cal z (by walk_at "1") (Vl nb)
 have c_law_alike:=a36.cal z (by walk_at "2") (Zp)
 have c_law_alike:=a36.cal z (by walk_at "2") (gm 0 nb c_law_whole c_law_alike)
 have c_law_alike:=a36.cal z (by walk_at "2") (gm 1 nb c_law_whole c_law_alike)
 have c_law_weather:=a39.cal z (by walk_at "1") (Xl c_law_take)
 have c_law_round:=a40.cal z (by walk_at "1") (Yt nb.toNb c_law_take c_law_weather)
 have c_law_ground_drawn:=a41.cal z (by walk_at "3") (uX nb c_law_take)
 have c_law_reaches:=a42.cal z (by walk_at "1") (X0 nb c_law_take c_law_ground_drawn)
 have c_law_roads:=a43.cal z (by walk_at "1") (YD nb)
 have c_law_ground:=a44.cal z (by walk_at "2") (ZE)
 have c_law_year:=a45.cal z (by walk_at "1") (VG c_law_take)
 have c_law_scene:=a46.cal z (by walk_at "1") (YX nb c_law_take c_law_reaches c_law_round c_law_ground c_law_roads c_law_year c_law_weather)
 have c_law_made:=a47.cal z (by walk_at "1") (Vt nb cl_Ice c_Ice c_Ice__tell c_Ice__surge)
 have c_law_row:=a48.cal z (by walk_at "2") (Wg nb)
 have c_law_wish:=a49.cal z (by walk_at "2") (Up)
 have c_law_ride:=a50.cal z (by walk_at "3") (VY nb)
 have c_law_marks:=a51.cal z (by walk_at "3") (YQ nb c_law_ride)
 have c_law_year_of:=a52.cal z (by walk_at "5") (QH nb c_law_marks c_law_wish c_law_row)
 have c_law_walk:=a53.cal z (by walk_at "3") (VQ nb c_law_year_of)
 exact Wm nb c_law_box c_law_take c_law_scene c_law_made c_law_walk c_law_alike c_end_of (vi (st:=yx) l54 c54 k54)
end K19
end
open PySem PySem.W PyProof.Rows
set_option maxRecDepth 100000 in
set_option maxHeartbeats 0 in
theorem PySem.Challenge.cw_firnfall_k19_where_hands_end_holds : PySem.Challenge.rw_firnfall_k19_where_hands_end.Holds := by
 w_on
 refine holds_law HO.ws λsaid=>?_
 refine holds_open (q:=HO.view) (loose:=HO.loose) (N:=9000) (Xt:=HO.xt) (XP:=XL HO.view [])
  (Yf:=Hook.obs (oQ HO.frag.heap_1 HO.asL HO.asE [154])) (Ya:=Hook.val (oQ HO.frag.heap_1 HO.asL HO.asE [154])) (YP:=Hook.says (oQ HO.frag.heap_1 HO.asL HO.asE [154]))
  HO.left (Hook.of (oQ HO.frag.heap_1 HO.asL HO.asE [154])) (Hook.keeps (oQ HO.frag.heap_1 HO.asL HO.asE [154]))
  (λs e=>xl_of s (Bool.and_eq_true_iff.mp e).1) XL.keeps rfl rfl rfl
  (λs e=>recFacts_of (Bool.and_eq_true_iff.mp e).2) rfl
  (by first | assumption | decide +kernel) (by decide +kernel) ⟨rfl,rfl,rfl,rfl,rfl,by decide +kernel⟩ ?hw ?hc
 (case hw=>w_witness2)
 k_fill
 refine L2.Uc (l:=PySem.Challenge.rw_firnfall_k19_where_hands_end) 11 156 154 ⟨rfl,⋯,⋯⟩ rfl rfl (λw h Y=>⟨PySem.W.km_in_of Y,PySem.W.km_tabs_of Y 154 (by simp)⟩) (λ_=>by kernel_rfl) (λ_=>by kernel_rfl) ?F
 case F =>
  intro w mg fa h KX G hmg
  refine' K19.Wv KX G hmg ..
  all_goals try first | refine' L2.gN.mk ?_ ?_ ?_ ?_ | refine' L2.gM.mk ?_ ?_ ?_ ?_ ?_ | refine' L2.gE.mk ?_ ?_ ?_
  all_goals try show _=_
  all_goals try k_is
  all_goals kernel_rfl
