import PyProof.Rows.All
import Wide.All
import OpenK.AllK
import Wide.FinOn
import Lean
import PyProof.EqAt
import PyProof.EqKinds
import PyProof.TupleCall
import PyProof.AttrMissHeap
import KE.KDictOf
import PyProof.Rows.MinMaxN
import KE.KMinBuiltin
import PyProof.Rows.CallKwBuiltin
import PySem.Challenge.RW_firnfall_k31_whole_more_ice_reaches_no_l
set_option Elab.async false
set_option linter.all false
set_option maxRecDepth 100000
set_option maxHeartbeats 0
open And renaming intro->fj
open Array renaming length_toList->bQ,getElem?_eq_getElem->d9,getElem?_setIfInBounds_ne->fK,getD_eq_getD_getElem?->ie,getElem?_toList->lR,getD->mL,forIn_toList->mO,toList_map->nW,mk->oN
open Bool renaming false_ne_true->aq,and_eq_true->bh,false_eq_true->c0,eq_iff_iff->dP,true_and->dW
open False renaming elim->bu
open ForIn renaming forIn->rg
open ForInStep renaming yield->bL
open Int renaming toNat_natCast->bg,emod_lt_of_pos->cG,emod_nonneg->di,le_refl->dH,toNat_of_nonneg->mw,zero_add->nI
open List renaming getElem?_eq_getElem->aa,length_map->af,getD_eq_getElem?_getD->ak,getElem?_map->au,mem_of_getElem?->av,size_toArray->aw,length_append->ax,map_append->aB,mem_cons_of_mem->aD,mem_append_right->aE,mem_cons_self->aG,length_take->aM,map_cons->aN,range->aO,length_singleton->aW,Nodup->aY,length_cons->b7,take_length->bb,append_nil->bo,mem_map_of_mem->bp,getElem_mem->bz,length_replicate->bD,map_map->bF,length_range->bH,take_of_length_le->bI,all_eq_true->bN,take_add_one->bW,zipWith->bX,find?_cons_of_neg->c7,length_filter_le->cf,filter_append->cn,lookup_cons->cp,getElem?_append_right->cw,reverse->cA,find?_cons_of_pos->cB,range_succ->cC,getElem?_append_left->cD,map_congr_left->cT,replicate->cZ,getElem?_zipWith->d6,drop_eq_getElem_cons->d7,length_set->dh,getElem_map->dB,lookup->dG,find?_cons->dS,getElem?_set->dZ,reverse_reverse->eB,getElem?_append->eC,map_nil->eI,not_mem_nil->eJ,length_zipWith->eM,any_cons->eO,mem_cons->eS,getElem?_take->eZ,pairwise_singleton->ff,filter->fg,filter_cons_of_neg->fh,filter_cons_of_pos->fi,all_map->fE,length_pos_of_mem->fF,ext_getElem?->fH,append_assoc->fI,mem_append_left->fS,mem_of_mem_take->fV,getLast?_eq_some_getLast->fX,of_mem_zip->i0,forIn_cons->i4,dropLast_concat_getLast->i7,filterMap_cons->i8,length_reverse->ib,nodup_nil->iF,reverse_cons->iJ,flatten_cons->iK,getElem?_replicate->iV,length_drop->iW,map_snd_zip->iX,ext_getElem->iY,getElem?_set_self->lg,drop_of_length_le->lC,getElem?_eq_none->lS,getElem?_set_ne->lU,length->lX,map_id->ma,replicate_succ'->mf,getElem?_range->mr,all_cons->my,sum_cons->mB,pairwise_cons->mS,toArray->nj,getElem_take->nE,pairwise_map->nJ,zipIdx_cons->nZ,map_reverse->og,zipIdx_nil->oC,length_nil->oE,filter_nil->oG,forIn_nil->pC,take_zero->pJ,any->rG
open List.Pairwise renaming nil->fC
open List.Perm renaming refl->m8,cons_inv->mQ
open MonadExcept renaming tryCatch->rE
open Nat renaming le_refl->ao,ne_of_lt->aA,le_trans->aF,zero_le->aJ,lt_of_lt_of_le->aK,lt_succ_of_lt->bC,lt_of_le_of_lt->bZ,lt_irrefl->c3,ne_of_gt->cq,le_of_lt->cU,lt_succ_self->dw,le_add_right->dA,succ_le_succ->dE,le_succ->fe,le_of_eq->lj,zero_add->lF,not_lt_zero->lN
open Ne renaming symm->c5
open Option renaming getD_none->nU
open Option.some renaming inj->aQ
open Or renaming inl->aU,inr->lA
open Prod renaming snd->rh
open PyProof.Rows renaming seqObj->bc,callWith_type1->bU,boot_list->c6,listUpdate_at->cJ,IntsAre->cV,boot_dict->dO,get?_update_seq->dR,seqEpoch_at->ef,boot_tuple->fk,slot_tuple_getitem->fJ,AllBare->fO,subscriptTail->fP,envOfC->iL,Subscript_->lu,subscriptTail_builtinR->lx,listItems_at->lE,entry_list_sort->lL,slot_list_sort->m7,preSum_getD->m9,size_push'->mM,plain_sorted->nh,entry_sorted->ni,boot_max->nH,kind_sorted->oq,boot_sorted->ou,list_sort_plain->oA,boot_range->oV,SortKind->ph,args_list_sort->pq,failedOf->px,boot_all->pG,boot_sum->pH,boot_min->pI,tail_any->rf,Call_->rJ
open PyProof.Rows.KeyOrd renaming kle_refl->cR,kle_of_klt->fD,kle_trans->fN,kle_antisymm->ia
open PySem renaming wpAny_bind->ae,Value->ag,wpAny->ay,model->aC,starEach->aH,boot_len->aS,World->aV,wpAny_mono->aX,Around->ba,sizeLine_eq->bw,wpAny_field->bE,wpAny_holding->bG,wpAny_loadPart'->bM,rawInt->bS,wpAny_truthy_bool->bT,wpAny_newObj_type->bV,compareOp->cc,wpAny_seqItems->cg,backTo->ck,foldedSetIterable->cu,bindArgs->cv,wpAny_Call_Name_kw->cF,wpAny_standAt->cH,codeAny->cI,wpAny_pyIter_list->cM,wpAny_callSpecial?_slot->cN,Paired->cO,letOwnedTupleGo->cQ,mem_of_lookup->cS,wpAny_call_entry->cY,wpAny_setField_rec->d5,importedModules->de,wpAny_passesOwn->df,codeAny_mono->dj,plainId_quiet->dm,IsPair->dr,sysModules->dI,codeAny_builtin->dQ,behindInMarks->dU,Builtin->dY,keywordEach->ee,wpAny_letGo->eA,holding->eF,attributeBase->eN,wpAny_comprehension_free->eQ,wpAny_newList->eR,standAt->eU,assignEach->eW,wpAny_rule->eY,sliceBounds->fc,pyNext->fq,NameKind->fA,wpAny_setField->fG,binaryOp->fT,wpAny_updateSeq_pair->fW,wpAny_execs_nil->fY,assign->fZ,bootBuiltins->ic,swapsWith->ij,noteFrame->ik,backToKw->iq,wpAny_newFunctionEnv_cells->iu,wpAny_newTuple->iA,IsZip->iC,tupleKind_room_in1->iD,wpAny_tryCatch->iE,evalPart_none->iM,wpAny_getItem_list_slice->iN,wpAny_onRaise->iO,wpAny_eqBool_int->iP,tupleKind->iQ,wpAny_execs_cons->iR,getMethod->iU,builtinsNs->l9,wpAny_pyNext_list_item->lh,wpAny_call->lp,Keyword->lq,getItem->lr,codeAny_compStart_list->lB,theTreesLotGoes->lK,wpAny_updateSeq->lO,wpAny_isTrue_Compare1->lP,wpAny_pyNext_list_end->lQ,pyIter->lV,Result->lW,subscripted->lY,wpAny_newFunctionEnv->lZ,ZipApart->md,leaving->mh,callerA->mi,valueAt->mj,argBest->ml,evalPart_some->mx,wpAny_attempt->mz,wpAny_pyIter_tuple->mG,wpAny_pyIter_range->mH,call_meets->mI,closureFor->mJ,wpAny_evalAll_cons->mP,getattributeRaised->mR,Within->mT,wpAny_assign_Name->mU,callWith->mW,seqIndex_neg->n5,codeAny_loop->n6,compTurn->n9,wpAny_typeOf->nk,wpAny_evalAll_nil->nu,wpAny_pyIter_enum->nv,cellsFrom->nR,seqItems?->nX,wpAny_pyIter_zip->o9,IsRangeIter->oh,wpAny_Slice->oj,seqIndex_of->om,wpAny_noted->oo,wpAny_of_eq->ow,atKey->oz,OsState->oH,BindsTo->oI,newList->oJ,Params->oM,wpAny_Name->oS,CmpOp->oU,bindL->oW,bindC->oX,IsPart->oY,typeLookup->oZ,compEnvC->p0,newFunctionEnv->pf,checkCount->pj,field->pz,firstArgMember->pA,rangeSize_one->pL,intBits_le_64->pM,call_list_seq->pN,eval_ListComp->pO,call_sum_walk->pR,typeOf->pU,cellOf->pV,stored->pW,GenState->pZ,compPost->rm,Model->rH
open PySem.Around renaming under_plainId->cK,under->mX
open PySem.Builtin.Dict renaming updateFrom->l3
open PySem.Builtin.List renaming listTooLong->eP
open PySem.Builtin.Range renaming rangeSize->iT
open PySem.Builtin.Slice renaming slicePlaces->d8,sliceAdjust->eK,sliceApplied->iB
open PySem.Builtin.SmallTypes renaming nextOf->bj,ownedTupleIsFree->cj,ownedTupleHandOut->eL
open PySem.Builtin.Tuple renaming tupleExact->dq
open PySem.Calls renaming evalArgs_plain->fU,Name_function_global->il,spliced_cons->ir,call_function_entry->iG,callWith_builtin->ly,spliced_nil->mZ
open PySem.Code renaming isFrame->mY
open PySem.Data renaming fields->fb,cell->iS,seq->rC
open PySem.EntryCells renaming newEntry->mq
open PySem.Env renaming kindOf->pe
open PySem.F renaming excBase_ValueError->br,slot_list_append->bO,type_list_append->bP,plainAttrs_list->bY,slot_tuple_iterator_next->d4,plain_max_loop->dC,slot_dict_get->fM,args_tuple_iterator_next_1->i5,slot_zip_next->i6,entry_tuple_iterator_next->ig,args_dict_get_3->iZ,entry_dict_get->lH,slot_list_lt->m6,args_zip_next_1->nB,entry_zip_next->o8,entry_max_loop->oa
open PySem.Fin renaming done->pw
open PySem.Heap renaming get?_push_of_some->ah,lt_size->ar,get?_push_size->az,get?_update_other->bq,size_push->bK,get?_update_ne->bR,get?_push_ne->cz,get?_update_self->cE,size_update->dz,SameBut->dJ,MadeExcOf->me
open PySem.Heap.DictOf renaming new->oF
open PySem.Heap.IsSliceOf renaming new->iz
open PySem.Heap.SameBut renaming update->mn
open PySem.IsRange renaming new->oi
open PySem.NameKind renaming free->aZ,cell->fQ
open PySem.Obj renaming mapSeq->aR,data_mapFields->dN,isFreed_of_fields->dX,mapFields->fR,cls_mapFields->nA
open PySem.Paired renaming length->b8,snoc->cW
open PySem.PassesOwn renaming never->bA
open PySem.SeqAt.EqAt renaming int_str->mD,str_int->mE
open PySem.Str renaming ofString->ai
open PySem.Value renaming none->aT,ref->b0,int->eE,type->eV,isInt_shape->fm,isStrOf_shape->mm,bool->mF,str->nN,isStrOf->pK
open PySem.W renaming Frag->aj,nsIn->aP,mg_none_of->b9,mg_of->bf,fnOf->bx,findIn->bB,keepIn->bJ,emptyDict->c8,codeIn->cx,instObj->cP,excIn->cX,boot_heap->dv,callWith_K->dM,plainGet->eG,hasDictIn->ft,cellsFrom_some->fB,methodCall_KW->fL,plainGet_of->i9,lookIn->ip,methodObj->iH,plainOver->iI,takerIn->lI,makesIn->lJ,namesBound->mC,isFn->mV,staticsOk->nK,kmHook->nM,handedIn->nO,OpenLaw->oB,kas_rev->oK,boot_drawn->oO,tabObj->oP,gensDone->oQ,laidKept->oR,funFrames_hide->pE,kas_tail3->pS,topStub->pT,openSeen->pX,openGood->pY,openEnds->r9,kas_sort->rn,kas_item->rp,kat_snds->rA
open PySem.W.Looks renaming of_pure->pQ
open PySem.W.OpenLaw renaming row->lT
open PySem.Walks renaming list->mK
open StateT renaming run_pure->lM
open Sum renaming inr->aI,inl->du
open Sum.inl renaming inj->f7
open True renaming intro->eX
open PySem PySem.Spec PyProof.Rows
local macro_rules | `(∅)=>`(by omega)
local macro_rules | `(⋯)=>`(by decide)
section
namespace HO
open PySem PySem.W PyProof.Rows PySem.Calls PySem.Spec
def view:Program:={ PySem.Challenge.pw_firnfall_k31_whole_more_ice_reaches_no_l with main:={ PySem.Challenge.pw_firnfall_k31_whole_more_ice_reaches_no_l.main with body:=(PySem.Challenge.pw_firnfall_k31_whole_more_ice_reaches_no_l.main.body).drop 63 } }
def loose:List Str:=[ai "_wall",ai "FirnError",ai "BadValley",ai "BadRound",ai "BadWeather",ai "BadYear",ai "BadSurge",ai "NoLane",ai "NoPlace",ai "MOST_REACHES",ai "MOST_HEIGHTS",ai "GREATEST_HEIGHT",ai "MOST_LANES",ai "LONGEST_LANE",ai "is_valley",ai "is_reach",ai "leads_on",ai "fits",ai "lanes",ai "way_down",ai "way_of",ai "count_places",ai "heights",ai "HIGHEST_LINE",ai "MOST_HANDS",ai "MOST_ROWS",ai "is_weather",ai "is_round",ai "change",ai "LAST_TOLD",ai "LAST_ASKED",ai "GREATEST_SURGE",ai "check_told",ai "check_asked",ai "check_round",ai "Ice",ai "course",ai "year_row",ai "snout",ai "lowest_ice",ai "_law_box",ai "_law_mixed",ai "_law_take",ai "_law_far",ai "_law_weather",ai "_law_round",ai "_law_ground_drawn",ai "_law_reaches",ai "_law_roads",ai "_law_ground",ai "_law_year",ai "_law_scene",ai "_law_made",ai "_law_spot",ai "_law_scene_copy",ai "_law_richer"]
section
local macro_rules | `(tactic| o_head $H)=>`(tactic| (have hook:=$H;assumption))
theorem frag (hyp:(lT PySem.Challenge.rw_firnfall_k31_whole_more_ice_reaches_no_l).Holds):(lT PySem.Challenge.rw_firnfall_k31_whole_more_ice_reaches_no_l).Holds:=by
 k_head
end
def asL:List Addr:=[2,3,15,17,18,20,21,22,29,30,31,32,35,42,43,44,47,54,55,56,59,66,67,68,71,78,79,80,83,90,91,92,95,102,103,104,107,114,115,116,119,122,123,124,127,128,129,131,132,134,135,136,139,140,141,144,145,146,148,149,151,152,153,155,156,158,159,160,163,164,165,168,169,170,172,173,175,176,177,180,181,182,184,185,187,188,189,191,192,194,195,196,198,199,201,202,203,205,206,208,209,217,220,221,222,224,225,227,228,229,231,232,234,235,236,238,239,241,242,243,245,246,248,249,250,252,253,255,256,257,259,260,262,263,264,266,267,269,270,271,273,274,276,277,278,280,281,283,284,285,287,288,290,291,292,294,295,297,298,299,301,302,304,305,306,309,310,311,314,315,316,318,319,321,322,323,325,326,328,329,330,332,333,335,336,337,338,339,340,341,344,347,348,349,351,352,354,355,356,358,359,361,362,363,366,367,368,370,371,373,374,375,377,378,380,381,382,384,385,387,388,389,391,392,394,395,396,398,399,401,402,403,406,407,408,411,412,413,416,417,418,421,422,423,425,426,428,429,430,432,433,435,436,437,440,441,442,444,445,447,448,449,451,452,454,455,456,459,460,461,463,464,466,467,468,470,471,473,474]
theorem asE (P:oM):asL=(frag.heap_1 P).map (·.1):=by kernel_rfl
noncomputable def top (w:aV) (os:oH):Option Shared:=PySem.W.Fast.tw14082659384304107361 PySem.W.Fast.tw14364793385576792824 PySem.Challenge.pw_firnfall_k31_whole_more_ice_reaches_no_l w (dv w.params).objs.size ((dv w.params).nsMap mainGlobals "__annotations__") 9000 ⟨dv w.params,oN [],oO,boot_toks,os⟩ (pT PySem.Challenge.pw_firnfall_k31_whole_more_ice_reaches_no_l)
def xt (s:Shared):Bool:=xlAt view [] s && recOk (RowW.records (OpenRow.toRowW (lT PySem.Challenge.rw_firnfall_k31_whole_more_ice_reaches_no_l))) s
theorem ran2 (w:aV) (os:oH):(top w os).map (λs=>(asL.map s.heap.get?,[142].map s.heap.get?))=some ((frag.heap_1 w.params).map λp=>some p.2,[142].map λ_=>some (oP #[])):=by kernel_rfl
theorem ws:OpenLaw.wellSaid PySem.Challenge.rw_firnfall_k31_whole_more_ice_reaches_no_l=true:=by kernel_rfl
theorem ran1 (w:aV) (os:oH):(top w os).map (λs=>pX view loose (de PySem.Challenge.pw_firnfall_k31_whole_more_ice_reaches_no_l.main.body) xt true s)=some (pY view loose):=by kernel_rfl
theorem ran0 (w:aV) (os:oH):(top w os).map (λs=>nK (de PySem.Challenge.pw_firnfall_k31_whole_more_ice_reaches_no_l.main.body) (dv w.params) s.heap && mC PySem.Challenge.pw_firnfall_k31_whole_more_ice_reaches_no_l s.heap && oQ s && oR (dv w.params) s.heap)=some true:=by kernel_rfl
theorem Vj (w:aV) (os:oH):topRun treeTable PySem.Challenge.pw_firnfall_k31_whole_more_ice_reaches_no_l w (dv w.params).objs.size ((dv w.params).nsMap mainGlobals "__annotations__") 9000 ⟨dv w.params,oN [],oO,boot_toks,os⟩ (pT PySem.Challenge.pw_firnfall_k31_whole_more_ice_reaches_no_l)=top w os:=by
 rw [PySem.W.Fast.te14082659384304107361,PySem.W.Fast.te14364793385576792824]
 rfl
theorem VH (w:aV):((dv w.params).isNs mainGlobals && (oN []:Array pZ).size == 0)=true:=by kernel_rfl
theorem hZ {tb:String->Option dY}{p:Program}{w:aV}{N:Nat}{s:Shared}{h:Heap}{gs d k os}(hb:(h.isNs mainGlobals && gs.size == 0)=true) (hr:topRun tb p w h.objs.size (h.nsMap mainGlobals "__annotations__") N ⟨h,gs,d,k,os⟩ (pT p)=some s) (hl:(nK (de p.main.body) h s.heap && mC p s.heap && oQ s && oR h s.heap)=true):topFrom tb p w N ⟨h,gs,d,k,os⟩=some s:=by
 unfold topFrom
 rw [hb]
 show ((topRun tb p w h.objs.size (h.nsMap mainGlobals "__annotations__") N ⟨h,gs,d,k,os⟩ (pT p)).bind _)=_
 rw [hr]
 show (match nK (de p.main.body) h s.heap && mC p s.heap && oQ s && oR h s.heap with | true=>some s | false=>none)=_
 rw [hl]
theorem Z5 {tb:String->Option dY}{p:Program}{w:aV}{N:Nat}{s₀ s:Shared}(a:fencedOpening tb p w N=some s₀) (t:topFrom tb p w N s₀=some s):r9 tb p w N=some s:=by
 unfold r9
 rw [a]
 exact t
theorem left:LeftO (lT PySem.Challenge.rw_firnfall_k31_whole_more_ice_reaches_no_l).prog view loose xt (Hook.obs (nM frag.heap_1 asL asE [142])) (Hook.val (nM frag.heap_1 asL asE [142])) 9000:=λw=>by
 obtain ⟨⟨h,gs,d,k,os⟩,a,b⟩:=Option.map_eq_some_iff.mp (boot_open (p:=PySem.Challenge.pw_firnfall_k31_whole_more_ice_reaches_no_l) (N:=9000) (by kernel_rfl) ⋯ (λs=>by kernel_rfl) w)
 obtain ⟨rfl,rfl,rfl,rfl⟩:h=dv w.params/\gs=oN []/\d=oO/\k=boot_toks:=by simpa using b
 have h0:=ran0 w os
 have h1:=ran1 w os
 have h2:=ran2 w os
 cases e:top w os with
 | none=>rw [e] at h1;cases h1
 | some s =>
  rw [e] at h0 h1 h2
  have l1:(nK (de PySem.Challenge.pw_firnfall_k31_whole_more_ice_reaches_no_l.main.body) (dv w.params) s.heap && mC PySem.Challenge.pw_firnfall_k31_whole_more_ice_reaches_no_l s.heap && oQ s && oR (dv w.params) s.heap)=true:=aQ h0
  have l2:pX view loose (de PySem.Challenge.pw_firnfall_k31_whole_more_ice_reaches_no_l.main.body) xt true s=pY view loose:=aQ h1
  obtain ⟨m1,m2⟩:=Prod.mk.inj (aQ h2)
  have m5:asL.map s.heap.get? = (frag.heap_1 w.params).map λp=>some p.2:=m1
  have t:=Z5 a (hZ (VH w) ((Vj w os).trans e) l1)
  show (r9 treeTable PySem.Challenge.pw_firnfall_k31_whole_more_ice_reaches_no_l w 9000).map _=_
  rw [t]
  show some (pX view loose (de PySem.Challenge.pw_firnfall_k31_whole_more_ice_reaches_no_l.main.body) xt true s,(asL.map s.heap.get?,[142].map s.heap.get?))=some (pY view loose,_)
  rw [l2,m5,m2]
  rfl
end HO
end
namespace L2
abbrev Key:=Sum Int Str
def wY:Key->ag->Bool
 | .inl k,v=>Value.isInt k v
 | .inr x,v=>pK x v
def keyH (w:aV):Key->Int
 | .inl k=>hashInt k
 | .inr x=>hashStr w x
theorem qe:∀{k:Key}{v:ag},wY k v=true->(∃i t,k=du i/\v=eE i t)\/(∃x t,k=aI x/\v=nN x t)
 | .inl i,v,h=>by
  obtain ⟨t,e⟩:=fm (k:=i) (v:=v) h
  exact .inl ⟨i,t,rfl,e⟩
 | .inr x,v,h=>by
  obtain ⟨t,e⟩:=mm (x:=x) (v:=v) h
  exact .inr ⟨x,t,rfl,e⟩
theorem Z4 (i:Int) (t:Tok):wY (.inl i) (.int i t)=true:=by simp [wY,Value.isInt]
theorem Xy (x:Str) (t:Tok):wY (.inr x) (.str x t)=true:=by simp [wY,pK]
theorem VR (a b:Int):decide ((du a:Key)=du b)=(a == b):=by
 by_cases e:a=b
 ·subst e;simp
 ·have h:¬(du a:Key)=du b:=λq=>e (f7 q)
  rw [decide_eq_false h]
  exact (beq_eq_false_iff_ne.mpr e).symm
theorem VJ (a b:Str):decide ((aI a:Key)=aI b)=decide (a=b):=by
 by_cases e:a=b
 ·subst e;simp
 ·have h:¬(aI a:Key)=aI b:=λq=>e (Sum.inr.inj q)
  rw [decide_eq_false h,decide_eq_false e]
theorem VL (a:Int) (b:Str):decide ((du a:Key)=aI b)=false:=decide_eq_false (λq=>nomatch q)
theorem U2 (a:Str) (b:Int):decide ((aI a:Key)=du b)=false:=decide_eq_false (λq=>nomatch q)
def jw (prog:Program) (w:aV):PySem.KeyKind prog w Key where
 is:=wY
 hash:=keyH w
 inj:=λv a b ha hb=>by
  rcases qe ha with ⟨i,t,rfl,rfl⟩ | ⟨x,t,rfl,rfl⟩
  ·rcases qe hb with ⟨j,u,rfl,e⟩ | ⟨y,u,rfl,e⟩
   ·injection e with e1 _;rw [e1]
   ·exact nomatch e
  ·rcases qe hb with ⟨j,u,rfl,e⟩ | ⟨y,u,rfl,e⟩
   ·exact nomatch e
   ·injection e with e1 _;rw [e1]
 byValue:=λk v h=>by
  rcases qe h with ⟨i,t,rfl,rfl⟩ | ⟨x,t,rfl,rfl⟩ <;> rfl
 pyHash:=λhv h=>by
  rcases qe hv with ⟨i,t,rfl,rfl⟩ | ⟨x,t,rfl,rfl⟩
  ·exact wpAny_pyHash_int h
  ·exact wpAny_pyHash_str h
 eqBool:=λhu hv h=>by
  rcases qe hu with ⟨i,t,rfl,rfl⟩ | ⟨x,t,rfl,rfl⟩
  ·rcases qe hv with ⟨j,u,rfl,rfl⟩ | ⟨y,u,rfl,rfl⟩
   ·rw [VR] at h;exact iP h
   ·rw [VL] at h;exact mD i t y u _ _ _ _ h
  ·rcases qe hv with ⟨j,u,rfl,rfl⟩ | ⟨y,u,rfl,rfl⟩
   ·rw [U2] at h;exact mE x t j u _ _ _ _ h
   ·rw [VJ] at h;exact wpAny_eqBool_str h
 «strs»:=λk x t v h=>by
  rcases qe h with ⟨i,u,rfl,e⟩ | ⟨y,u,rfl,e⟩
  ·exact nomatch e
  ·injection e with e1 _
   subst e1
   cases v <;> rfl
theorem Jg (prog:Program) (w:aV) (i:Int) (t:Tok):(jw prog w).is (.inl i) (.int i t)=true:=Z4 i t
theorem Jd (prog:Program) (w:aV) (x:Str) (t:Tok):(jw prog w).is (.inr x) (.str x t)=true:=Xy x t
end L2
namespace L2
inductive V where
 | non | bl (b:Bool) | int (i:Int) | str (x:Str) | byt (b:Array UInt8) | flt (b:UInt64) | ref (a:Addr) | ty (n:String)
 deriving DecidableEq
def jA:V->ag->Prop
 | .non,u=>u=aT
 | .bl b,u=>u=mF b
 | .int i,u=>∃t,u=eE i t
 | .str x,u=>∃t,u=nN x t
 | .byt b,u=>∃t,u=Value.bytes b t
 | .flt b,u=>∃t,u=Value.float b t
 | .ref a,u=>u=b0 a
 | .ty n,u=>u=eV n
abbrev jx:List V->List ag->Prop:=cO jA
theorem jx.length {xs:List V}{us:List ag}(r:jx xs us):xs.length=us.length:=b8 r
theorem jx.get:∀{xs:List V}{us:List ag}{i:Nat}{x:V},jx xs us->xs[i]? = some x->∃u,us[i]? = some u/\jA x u
 | _,_,_,_,.nil,e=>by simp at e
 | _,_,0,_,.cons r _,e=>by simp at e;subst e;exact ⟨_,rfl,r⟩
 | _,_,i+1,x,.cons _ t,e=>by
  obtain ⟨u,h1,h2⟩:=jx.get (i:=i) (x:=x) t (by simpa using e)
  exact ⟨u,by simpa using h1,h2⟩
theorem jx.set {x:V}{u:ag}(r:jA x u):∀{xs:List V}{us:List ag}(i:Nat),jx xs us->jx (xs.set i x) (us.set i u)
 | _,_,_,.nil=>.nil
 | _,_,0,.cons _ t=>.cons r t
 | _,_,i+1,.cons q t=>.cons q (jx.set r i t)
theorem jx.append:∀{xs ys:List V}{us ws:List ag},jx xs us->jx ys ws->jx (xs++ys) (us++ws)
 | _,_,_,_,.nil,s=>s
 | _,_,_,_,.cons r t,s=>.cons r (jx.append t s)
theorem jx.take:∀{xs:List V}{us:List ag}(n:Nat),jx xs us->jx (xs.take n) (us.take n)
 | _,_,0,_=>.nil
 | _,_,_+1,.nil=>.nil
 | _,_,n+1,.cons r t=>.cons r (jx.take n t)
theorem jx.drop:∀{xs:List V}{us:List ag}(n:Nat),jx xs us->jx (xs.drop n) (us.drop n)
 | _,_,0,r=>r
 | _,_,_+1,.nil=>.nil
 | _,_,n+1,.cons _ t=>jx.drop n t
def zT:Option V->Option ag->Prop
 | some v,some u=>jA v u
 | none,none=>True
 | _,_=>False
def KV {κ:Type}:List (κ×V)->List (κ×ag)->Prop:=cO λ(p:κ×V) (q:κ×ag)=>p.1=q.1/\jA p.2 q.2
def kV:Key->V
 | .inl i=>.int i
 | .inr x=>.str x
inductive HO where
  | lst (xs:List V)
  | tup (xs:List V)
  | dK (kvs:List (Key×V)) | dT (kvs:List (List Key×V))
  | set (S:Int->Bool) (n:Nat)
  | ins (C dx:Addr) (fs:List (Str×V))
  | own (x:Addr)
  | xd (fs:List (Str×V))
  | met (f x:Addr)
  | rng (lo hi:Int)
  | frz (o:Obj) (u:HO)
  | tbl (ps:Array ag)
  | ext (φ:Heap->Prop)
abbrev Hp:=Addr->Option HO
def upd (H:Hp) (a:Addr) (o:HO):Hp:=λb=>if b=a then some o else H b
theorem j4 {H:Hp}{a:Addr}{o:HO}:upd H a o a=some o:=by unfold upd;rw [if_pos rfl]
theorem j5 {H:Hp}{a b:Addr}{o:HO}(h:b≠a):upd H a o b=H b:=by unfold upd;rw [if_neg h]
theorem jh {H:Hp}{a b:Addr}{o u:HO}(h:H a=some o) (h':H b=some u) (d:o≠u):a≠b:=by
 intro e;subst e;rw [h] at h';exact d (aQ h')
theorem j1 {H:Hp}{a b:Addr}{o:HO}(h:H a=some o) (h':H b=none):a≠b:=by
 intro e;subst e;rw [h] at h';cases h'
section
variable (P:Program) (w:aV)
def qk (H:Hp) (h:Heap) (a:Addr):HO->Prop
 | .lst xs=>xs.length<=sizeLine/\∃(its:List ag) (n:Nat),jx xs its/\h.get? a=some { cls:=.type "list",data:=.seq its.toArray n }
 | .tup xs=>xs.length<=sizeLine/\∃its:List ag,jx xs its/\IsTup h a its.toArray
 | .dK kvs=>kvs.length<=sizeLine/\(a == dI)=false/\∃vs,KV kvs vs/\h.DictOf (jw P w) a vs
 | .dT kvs=>kvs.length<=sizeLine/\(a == dI)=false/\∃xs:List (List Key×Addr×ag),
   cO (λ(p:List Key×V) (q:List Key×Addr×ag)=>p.1=q.1/\H q.2.1=some (.tup (p.1.map kV))/\jA p.2 q.2.2) kvs xs /\
   ∃o es ep,h.get? a=some o/\o.ExactDict/\o.data = .dict es ep/\es.toList=xs.map (entryOfKey (iQ (jw P w)))/\(xs.map (·.1)).Nodup
 | .set S n=>h.SetOf (intKind P w) a S n
 | .ins C dx fs=>H dx=some (.own a)/\fs.length<=1000/\dx≠a/\h.get? a=some (cP C dx) /\
   ∃mA,h.Ns1 dx mA/\(∀f,zT (fs.lookup f) (mA f))/\mT mA (fs.map (·.1))
 | .own _=>∃o,h.get? a=some o
 | .xd fs=>∃mA,h.Ns1 a mA/\∀f,zT (fs.lookup f) (mA f)
 | .rng lo hi=>∃t u v,h.get? a=some { cls:=.type "range",data:=.fields #[.int lo t,.int hi u,.int 1 v] }
 | .frz o u=>h.get? a=some o/\qk H h a u
 | .tbl ps=>h.get? a=some { cls:=.none,data:=.fields ps }
 | .met f x=>h.get? a=some (iH (.ref f) (.ref x))
 | .ext φ=>φ h/\(∃o,h.get? a=some o)/\∀h1 h2:Heap,φ h1->(∀o,h1.get? a=some o->h2.get? a=some o)->φ h2
def HOk (H:Hp) (h:Heap):Prop:=∀a o,H a=some o->qk P w H h a o
end
section
variable {P:Program}{w:aV}{H H':Hp}{h h':Heap}{a:Addr}{o:HO}
theorem qk.lt (x:qk P w H h a o):a<h.objs.size:=by
 cases o with
 | lst xs=>obtain ⟨_,_,_,_,e⟩:=x;exact ar e
 | tup xs=>obtain ⟨_,_,_,p⟩:=x;exact p.lt
 | dK kvs=>obtain ⟨_,_,_,_,o,_,_,e,_⟩:=x;exact ar e
 | dT kvs=>obtain ⟨_,_,_,_,o,_,_,e,_⟩:=x;exact ar e
 | set S n=>obtain ⟨o,_,_,_,e,_⟩:=x;exact ar e
 | ins C dx fs=>obtain ⟨_,_,_,e,_⟩:=x;exact ar e
 | own y=>obtain ⟨_,e⟩:=x;exact ar e
 | xd fs=>obtain ⟨_,⟨_,_,_,e,_⟩,_⟩:=x;exact ar e
 | rng lo hi=>obtain ⟨_,_,_,e⟩:=x;exact ar e
 | frz ob u=>obtain ⟨e,_⟩:=x;exact ar e
 | tbl ps=>exact ar (show h.get? a=some _ from x)
 | met f y=>exact ar (show h.get? a=some _ from x)
 | ext φ=>obtain ⟨_,⟨_,e⟩,_⟩:=x;exact ar e
theorem Paired.mapP {α β:Type}{F G:α->β->Prop}:∀{l₁:List α}{l₂:List β},cO F l₁ l₂->(∀a b,F a b->G a b)->cO G l₁ l₂
 | _,_,.nil,_=>.nil
 | _,_,.cons r t,f=>.cons (f _ _ r) (Paired.mapP t f)
theorem qk.stay (x:qk P w H h a o) (k:∀b u,(b=a\/H b=some (.own a))->h.get? b=some u->h'.get? b=some u)
  (ho:∀b,H b=some (.own a)->H' b=some (.own a)) (ht:∀b xs,H b=some (.tup xs)->H' b=some (.tup xs)):qk P w H' h' a o:=by
 induction o with
 | lst xs=>obtain ⟨z,its,n,r,e⟩:=x;exact ⟨z,its,n,r,k _ _ (.inl rfl) e⟩
 | tup xs=>obtain ⟨z,its,r,ob,e,c⟩:=x;exact ⟨z,its,r,ob,k _ _ (.inl rfl) e,c⟩
 | dK kvs=>obtain ⟨z,y,vs,r,ob,es,ep,e,c⟩:=x;exact ⟨z,y,vs,r,ob,es,ep,k _ _ (.inl rfl) e,c⟩
 | dT kvs =>
  obtain ⟨z,y,xs,r,ob,es,ep,e,c⟩:=x
  exact ⟨z,y,xs,Paired.mapP r λp q z=>⟨z.1,ht _ _ z.2.1,z.2.2⟩,ob,es,ep,k _ _ (.inl rfl) e,c⟩
 | set S n=>obtain ⟨ob,es,ep,t,e,c⟩:=x;exact ⟨ob,es,ep,t,k _ _ (.inl rfl) e,c⟩
 | ins C dx fs =>
  obtain ⟨d,z,ne,e,mA,⟨od,es,ep,e2,c⟩,r⟩:=x
  exact ⟨ho _ d,z,ne,k _ _ (.inl rfl) e,mA,⟨od,es,ep,k _ _ (.inr d) e2,c⟩,r⟩
 | own y=>obtain ⟨ob,e⟩:=x;exact ⟨ob,k _ _ (.inl rfl) e⟩
 | xd fs=>obtain ⟨mA,⟨od,es,ep,e,c⟩,r⟩:=x;exact ⟨mA,⟨od,es,ep,k _ _ (.inl rfl) e,c⟩,r⟩
 | rng lo hi=>obtain ⟨t,u,v,e⟩:=x;exact ⟨t,u,v,k _ _ (.inl rfl) e⟩
 | frz ob u ih=>obtain ⟨e,q⟩:=x;exact ⟨k _ _ (.inl rfl) e,ih q⟩
 | tbl ps =>
  have e:h.get? a=some { cls:=.none,data:=.fields ps }:=x
  show h'.get? a=some { cls:=.none,data:=.fields ps }
  exact k a _ (.inl rfl) e
 | met f y =>
  have e:h.get? a=some (iH (.ref f) (.ref y)):=x
  show h'.get? a=some (iH (.ref f) (.ref y))
  exact k a _ (.inl rfl) e
 | ext φ=>obtain ⟨p,⟨o,e⟩,st⟩:=x;exact ⟨st _ _ p λo q=>k _ _ (.inl rfl) q,⟨o,k _ _ (.inl rfl) e⟩,st⟩
theorem HOk.lt (x:HOk P w H h) (e:H a=some o):a<h.objs.size:=(x a o e).lt
theorem HOk.fresh (x:HOk P w H h) (e:h.objs.size<=a):H a=none:=by
 cases q:H a with
 | none=>rfl
 | some u=>exact absurd (aK (x.lt q) e) (c3 _)
theorem HOk.kept (x:HOk P w H h) (k:∀b u,h.get? b=some u->h'.get? b=some u):HOk P w H h':=λa o e =>
 (x a o e).stay (λb u _ q=>k b u q) (λ_ q=>q) λ_ _ q=>q
theorem HOk.laid (x:HOk P w H h) (k:∀b u,h.get? b=some u->h'.get? b=some u) (hp:h.objs.size<=a) (new:qk P w (upd H a o) h' a o):HOk P w (upd H a o) h':=λb u e=>by
 have hn:=x.fresh hp
 by_cases hb:b=a
 ·subst hb;rw [j4] at e;cases e;exact new
 ·rw [j5 hb] at e
  exact (x b u e).stay (λc v _ q=>k c v q) (λc q=>by rw [j5 (j1 q hn)];exact q) λc xs q=>by rw [j5 (j1 q hn)];exact q
end
def Rd (H:Hp) (a:Addr) (u:HO):Prop:=H a=some u\/∃o,H a=some (.frz o u)
theorem Rd.ok {P:Program}{w:aV}{H:Hp}{h:Heap}{a:Addr}{u:HO}(r:Rd H a u) (x:HOk P w H h):qk P w H h a u:=by
 rcases r with r | ⟨o,r⟩
 ·exact x a u r
 ·obtain ⟨_,q⟩:=x a _ r
  exact q
def Mut:Option HO->Prop
 | some (.lst _)=>True
 | some (.dK _)=>True
 | some (.dT _)=>True
 | some (.set _ _)=>True
 | some (.ins _ _ _)=>True
 | some (.ext _)=>True
 | _=>False
section
variable {P:Program}{w:aV}{H:Hp}{h h':Heap}{x e:Addr}{o':HO}
theorem HOk.write (ok:HOk P w H h) (mu:Mut (H x)) (he:e=x\/H e=some (.own x)) (k:∀b u,b≠e->h.get? b=some u->h'.get? b=some u) (heo:∃u,h'.get? e=some u)
  (new:qk P w (upd H x o') h' x o'):HOk P w (upd H x o') h':=λb u q=>by
 have nown:∀c y,H c=some (.own y)->c≠x:=λc y r z=>by subst z;rw [r] at mu;exact mu
 have ntup:∀c xs,H c=some (.tup xs)->c≠x:=λc xs r z=>by subst z;rw [r] at mu;exact mu
 by_cases hb:b=x
 ·subst hb;rw [j4] at q;cases q;exact new
 ·rw [j5 hb] at q
  by_cases hbe:b=e
  ·have q':H b=some (.own x):=by
    rcases he with z | z
    ·exact absurd (hbe.trans z) hb
    ·rw [hbe];exact z
   rw [q] at q';cases q'
   obtain ⟨v,hv⟩:=heo
   exact ⟨v,by rw [hbe];exact hv⟩
  ·refine (ok b u q).stay (λc v hc r=>k c v ?_ r) (λc r=>by rw [j5 (nown c b r)];exact r) λc xs r=>by rw [j5 (ntup c xs r)];exact r
   rcases hc with rfl | hc
   ·exact hbe
   ·rintro rfl
    rcases he with z | z
    ·exact nown c b hc z
    ·rw [hc] at z;cases z;exact hb rfl
end
structure Un (fs ex:List Addr) (H H':Hp) (h h':Heap):Prop where
 keep:∀b o,h.get? b=some o->H b=none->b∉fs->b∉ex->h'.get? b=some o
 slot:∀b o,h.get? b=some o->H b=none->b∈fs->b∉ex->∃sl,h'.get? b=some { o with slots:=sl }
 free:∀b o,h.get? b=some o->H b=none->b∉ex->H' b=none
 there:∀b o,h.get? b=some o->b∉ex->∃o',h'.get? b=some o'
 tups:∀b xs,H b=some (.tup xs)->H' b=some (.tup xs)
 frzs:∀b o u,H b=some (.frz o u)->H' b=some (.frz o u)
 tbls:∀b ps,H b=some (.tbl ps)->∃more,H' b=some (.tbl (ps++more))
section
variable {fs fs' ex ex':List Addr}{H H1 H2:Hp}{h h1 h2 h':Heap}{a x e:Addr}{o:HO}
theorem Un.any (u:Un fs ex H H1 h h1) {b:Addr}{ob:Obj}(q:h.get? b=some ob) (n:H b=none) (hx:b∉ex):∃sl,h1.get? b=some { ob with slots:=sl }:=by
 by_cases hb:b∈fs
 ·exact u.slot b ob q n hb hx
 ·exact ⟨ob.slots,u.keep b ob q n hb hx⟩
theorem Un.kept (k:∀b u,h.get? b=some u->h'.get? b=some u):Un fs ex H H h h' :=
 ⟨λb ob q _ _ _=>k b ob q,λb ob q _ _ _=>⟨ob.slots,k b ob q⟩,λ_ _ _ n _=>n,λb ob q _=>⟨ob,k b ob q⟩,λ_ _ q=>q,λ_ _ _ q=>q,λ_ ps q=>⟨#[],by rw [q];simp⟩⟩
theorem Un.refl:Un fs ex H H h h:=Un.kept λ_ _ q=>q
theorem Un.laid (k:∀b u,h.get? b=some u->h'.get? b=some u) (hp:h.objs.size<=a) (hn:H a=none):Un fs ex H (upd H a o) h h' where
 keep:=λb u q _ _ _=>k b u q
 slot:=λb u q _ _ _=>⟨u.slots,k b u q⟩
 free:=λb u q n _=>by rw [j5 (aA (aK (ar q) hp))];exact n
 there:=λb u q _=>⟨u,k b u q⟩
 tups:=λb xs q=>by rw [j5 (j1 q hn)];exact q
 frzs:=λb u xs q=>by rw [j5 (j1 q hn)];exact q
 tbls:=λb ps q=>⟨#[],by rw [j5 (j1 q hn),q];simp⟩
theorem Un.write (mu:Mut (H x)) (he:e=x\/H e=some (.own x)) (k:∀b u,b≠e->h.get? b=some u->h'.get? b=some u) (heo:∃u,h'.get? e=some u):Un fs ex H (upd H x o) h h':=by
 have hx:∀b,H b=none->b≠x:=λb n z=>by subst z;rw [n] at mu;exact mu
 have hb:∀b,H b=none->b≠e:=λb n z=>by
  subst z
  rcases he with r | r
  ·exact hx b n r
  ·rw [n] at r;cases r
 have hm:∀b u,H b=some u->¬Mut (some u)->b≠x:=λb u q nm z=>by subst z;rw [q] at mu;exact nm mu
 refine ⟨λb u q n _ _=>k b u (hb b n) q,λb u q n _ _=>⟨u.slots,k b u (hb b n) q⟩,λb u q n _=>by rw [j5 (hx b n)];exact n,λb u q _=>?_,
  λb xs q=>by rw [j5 (hm b _ q λz=>z)];exact q,λb u xs q=>by rw [j5 (hm b _ q λz=>z)];exact q,λb ps q=>⟨#[],by rw [j5 (hm b _ q λz=>z),q];simp⟩⟩
 by_cases hbe:b=e
 ·subst hbe;exact heo
 ·exact ⟨u,k b u hbe q⟩
end
def trk (h:Heap) (H:Hp):List Addr:=(aO h.objs.size).filter λa=>(H a).isSome
def wo (h:Heap) (H:Hp):Heap:=PySem.W.hideAll h (trk h H)
theorem Xs (h:Heap) (H:Hp):(wo h H).objs.size=h.objs.size:=PySem.W.hideAll_size _ _
theorem Y7 {h:Heap}{H:Hp}{b:Addr}{o:Obj}(e:h.get? b=some o) (n:H b=none):(wo h H).get? b=some o :=
 PySem.W.hideAll_get _ e λhm=>by
  have q:(H b).isSome=true:=(List.mem_filter.mp hm).2
  rw [n] at q;simp at q
theorem Yw {h:Heap}{H:Hp}{b:Addr}{o:Obj}(e:(wo h H).get? b=some o):h.get? b=some o/\H b=none:=by
 have e':h.get? b=some o:=PySem.W.of_hideAll (trk h H) e
 refine ⟨e',?_⟩
 cases q:H b with
 | none=>rfl
 | some x =>
  have hm:b∈trk h H:=List.mem_filter.mpr ⟨List.mem_range.mpr (ar e'),by simp [q]⟩
  have z:(wo h H).get? b=none:=PySem.W.hideAll_none (trk h H) hm
  rw [z] at e;cases e
def YW (g h:Heap) (L:Addr):List (Addr×Obj):=(aO h.objs.size).filterMap λa=>if a=L\/(g.get? a).isSome=true then none else (h.get? a).map λo=>(a,o)
def yN (g h:Heap) (L d:Addr):List (Addr×Obj):=(YW g h L).filter λp=>decide (p.1≠d)
end L2
namespace L2
structure Mod (K:aj) (mg:Str->Option ag) (base:Heap):Prop where
 kin:K.In base
 glob:base.Ns mainGlobals mg
 blt:∃mb,base.Ns l9 mb/\∀x:Str,x ≠ "__name__" -> mb x=ic x
 nolimit:base.NoLimit
structure Cx where
 prog:Program
 w:aV
 K:aj
 mg:Str->Option ag
 base:Heap
 A:ba
 N:List Str
 s₀:Shared
 H₀:Hp
 env:Env
 outer:List Env
 stack:List Env
 ex:List Addr
 fn:Str->Bool
 calm:Bool
 pn:List (Addr×Obj)
 xe:ag->Shared->Prop
def frs (l:List Env):List Addr:=l.filterMap (·.frame)
abbrev Cx.fs (X:Cx):List Addr:=frs X.outer
def Vis (sc:Scope) (x:Str):Prop:=sc.names.lookup x=some .local\/sc.names.lookup x=some .cell\/sc.names.lookup x=some .free
def Loc (sc:Scope) (x:Str):Prop:=sc.names.lookup x=some .local\/sc.names.lookup x=some .cell
def Look (env:Env) (h:Heap) (m:Str->Option ag) (x:Str) (u:ag):Prop :=
 (env.kindOf x=some .local/\m x=some u)\/((env.kindOf x=some .cell\/env.kindOf x=some .free)/\∃c,env.cells.lookup x=some c/\h.IsCell c (some u))
structure Cx.Ok (X:Cx):Prop where
 mod:Mod X.K X.mg X.base
 kind:X.env.scope.kind = .function
 glob:X.env.globals=mainGlobals
 blt:X.env.builtins=l9
 above:X.s₀.heap.objs.size<=X.env.locals
 inj:∀x y c,X.env.cells.lookup x=some c->X.env.cells.lookup y=some c->x=y
 has:∀x,(X.env.kindOf x=some .cell\/X.env.kindOf x=some .free)->∃c,X.env.cells.lookup x=some c
 cab:∀x c,X.fn x=true->X.env.cells.lookup x=some c->X.s₀.heap.objs.size<=c
 hd:X.calm=true->X.A.handled=none
 frames:X.A.frames=some X.stack
 stk:X.stack=X.outer\/(X.stack=X.env::X.outer/\X.env.frame=some X.env.locals)
 exf:∀b∈X.ex,b≠X.env.locals/\∀x c,X.env.cells.lookup x=some c->c≠b
 bs:∀b o,X.base.get? b=some o->X.s₀.heap.get? b=some o/\X.H₀ b=none
 bsz:X.base.objs.size<=X.s₀.heap.objs.size
 noex:∀b o,X.base.get? b=some o->b∉X.ex
 exfs:∀b∈X.ex,b∉X.fs
 funs:X.s₀.heap.FunFrames X.base X.outer
 frf:∀b∈X.fs,X.H₀ b=none
structure Inv (X:Cx) (pins:List (Addr×Obj)) (σ:List (Option V)) (H:Hp) (s:Shared):Prop where
 ok:X.Ok
 os:s.os=X.s₀.os
 bare:fO s.gens
 base:Un X.fs X.ex X.H₀ H X.s₀.heap s.heap
 loc:∃m,s.heap.Ns X.env.locals m/\∀(i:Nat) (x:Str) (v:V),X.N[i]? = some x->σ[i]? = some (some v)->Vis X.env.scope x->∃u,jA v u/\Look X.env s.heap m x u
 cell:∀x c,X.env.cells.lookup x=some c->∃v,s.heap.IsCell c v
 free:H X.env.locals=none
 freeC:∀x c,X.env.cells.lookup x=some c->H c=none
 pin:∀p∈X.pn++pins,s.heap.get? p.1=some p.2/\H p.1=none/\p.1≠X.env.locals/\p.1∉X.fs/\∀v,p.2.data≠.cell v
 hok:HOk X.prog X.w H s.heap
 len:σ.length=X.N.length
section
variable {X:Cx}{pins:List (Addr×Obj)}{σ:List (Option V)}{H H':Hp}{s:Shared}{h':Heap}
theorem Cx.Ok.nofr (ok:X.Ok) {b:Addr}{o:Obj}(e:X.base.get? b=some o):b∉X.fs:=λhb=>by
 have:=(ok.funs.mem hb).1
 rw [e] at this;cases this
theorem Inv.bs (I:Inv X pins σ H s):∀b o,X.base.get? b=some o->s.heap.get? b=some o/\H b=none:=λb o e =>
 ⟨I.base.keep b o (I.ok.bs b o e).1 (I.ok.bs b o e).2 (I.ok.nofr e) (I.ok.noex b o e),I.base.free b o (I.ok.bs b o e).1 (I.ok.bs b o e).2 (I.ok.noex b o e)⟩
theorem Inv.bk (I:Inv X pins σ H s):∀b o,X.base.get? b=some o->s.heap.get? b=some o:=λb o e=>(I.bs b o e).1
theorem Inv.mod (I:Inv X pins σ H s):Mod X.K X.mg X.base:=I.ok.mod
theorem Inv.kIn (I:Inv X pins σ H s):X.K.In s.heap:=I.ok.mod.kin.keeps I.bk
theorem Inv.lt (I:Inv X pins σ H s):X.env.locals<s.heap.objs.size:=let ⟨_,hn,_⟩:=I.loc;hn.lt
theorem Inv.sz (I:Inv X pins σ H s):X.s₀.heap.objs.size<=s.heap.objs.size:=aF I.ok.above (cU I.lt)
theorem Inv.nofs (I:Inv X pins σ H s) {a:Addr}(h:s.heap.objs.size<=a):a∉X.fs:=λhb=>by
 obtain ⟨_,o,ho,_⟩:=I.ok.funs.mem hb
 exact absurd (aK (ar ho) (aF I.sz h)) (c3 _)
theorem Inv.cne (I:Inv X pins σ H s):∀x c,X.env.cells.lookup x=some c->c≠X.env.locals:=λx c e z=>by
 obtain ⟨v,o,ho,hd⟩:=I.cell x c e
 obtain ⟨m,⟨o',es,ep,ho',hd',_⟩,_⟩:=I.loc
 rw [z,ho'] at ho;cases ho;rw [hd'] at hd;cases hd
theorem Inv.funs (I:Inv X pins σ H s):s.heap.FunFrames X.base X.outer:=by
 have all:∀(l:List Env),(∀b∈frs l,b∈X.fs)->X.s₀.heap.FunFrames X.base l->s.heap.FunFrames X.base l:=by
  intro l
  induction l with
  | nil=>intro _ _;trivial
  | cons env r ih =>
   intro hs hl
   obtain ⟨hk,⟨L,o,hf,hn,ho,hd⟩,hr⟩:=hl
   have hL:L∈X.fs:=hs L (by unfold frs;rw [i8,hf];exact aG)
   obtain ⟨sl,e⟩:=I.base.slot L o ho (I.ok.frf L hL) hL λz=>I.ok.exfs L z hL
   exact ⟨hk,⟨L,_,hf,hn,e,hd⟩,ih (λb hb=>hs b (by unfold frs;rw [i8,hf];exact aD _ hb)) hr⟩
 exact all X.outer (λ_ hb=>hb) I.ok.funs
theorem Inv.stack (I:Inv X pins σ H s):s.heap.FunFrames X.base X.stack:=by
 rcases I.ok.stk with e | ⟨e,hf⟩
 ·rw [e];exact I.funs
 ·rw [e]
  obtain ⟨m,hn,_⟩:=I.loc
  refine .cons (by rw [I.ok.kind];decide) hf hn ?_ I.funs
  exact Heap.get?_none_of_le (aF I.ok.bsz I.ok.above)
theorem Inv.stkSub (I:Inv X pins σ H s):∀b∈frs X.stack,b∈X.env.locals::X.fs:=λb hb=>by
 rcases I.ok.stk with e | ⟨e,hf⟩
 ·rw [e] at hb;exact aD _ hb
 ·rw [e] at hb
  unfold frs at hb
  rw [i8,hf] at hb
  exact hb
theorem Inv.stkFree (I:Inv X pins σ H s):∀b∈frs X.stack,H b=none:=λb hb=>by
 rcases List.mem_cons.mp (I.stkSub b hb) with e | hb
 ·rw [e];exact I.free
 ·obtain ⟨_,o,ho,_⟩:=I.ok.funs.mem hb
  exact I.base.free b o ho (I.ok.frf b hb) λz=>I.ok.exfs b z hb
theorem Inv.step {g':Array pZ}{t':Nat}{d':Drawn}{ch:List Addr}(I:Inv X pins σ H s)
  (hch:∀b∈ch,(b∈X.ex\/X.s₀.heap.objs.size<=b)/\b≠X.env.locals/\(∀x c,X.env.cells.lookup x=some c->c≠b)/\∀p∈X.pn++pins,p.1≠b)
  (keep:∀b o,b≠X.env.locals->b∉X.fs->b∉ch->s.heap.get? b=some o->H b=none->h'.get? b=some o)
  (slot:∀b o,b≠X.env.locals->b∈X.fs->b∉ch->s.heap.get? b=some o->H b=none->∃sl,h'.get? b=some { o with slots:=sl }) (free:∀b o,b∉ch->s.heap.get? b=some o->H b=none->H' b=none)
  (there:∀b o,b∉ch->s.heap.get? b=some o->∃o',h'.get? b=some o')
  (tups:∀b xs,H b=some (.tup xs)->H' b=some (.tup xs)) (frzs:∀b o u,H b=some (.frz o u)->H' b=some (.frz o u)) (tbls:∀b ps,H b=some (.tbl ps)->∃more,H' b=some (.tbl (ps++more)))
  (ns:∀m,s.heap.Ns X.env.locals m->h'.Ns X.env.locals m) (hok:HOk X.prog X.w H' h') (hg:fO g') :
  Inv X pins σ H' { s with heap:=h',gens:=g',drawn:=d',toks:=t' }:=by
 have neL:∀b o,X.s₀.heap.get? b=some o->b≠X.env.locals:=λb o e=>aA (aK (ar e) I.ok.above)
 have neC:∀b o,X.s₀.heap.get? b=some o->b∉X.ex->b∉ch:=λb o e hx hb=>by
  rcases (hch b hb).1 with z | z
  ·exact hx z
  ·exact absurd (aK (ar e) z) (c3 _)
 have cellK:∀x c,X.env.cells.lookup x=some c->∀v,s.heap.IsCell c v->h'.IsCell c v:=λx c e v ⟨o,ho,hd⟩=>by
  have nch:c∉ch:=λz=>(hch c z).2.2.1 x c e rfl
  by_cases hc:c∈X.fs
  ·obtain ⟨sl,q⟩:=slot c o (I.cne x c e) hc nch ho (I.freeC x c e)
   exact ⟨_,q,hd⟩
  ·exact ⟨o,keep c o (I.cne x c e) hc nch ho (I.freeC x c e),hd⟩
 refine ⟨I.ok,I.os,hg,⟨λb o e n hb hx=>?_,λb o e n hb hx=>?_,λb o e n hx=>?_,λb o e hx=>?_,λb xs e=>tups b xs (I.base.tups b xs e),λb o xs e=>frzs b o xs (I.base.frzs b o xs e),λb ps e=>?_⟩,?_,λx c e=>?_,?_,λx c e=>?_,λp hp=>?_,hok,I.len⟩
 ·exact keep b o (neL b o e) hb (neC b o e hx) (I.base.keep b o e n hb hx) (I.base.free b o e n hx)
 ·obtain ⟨sl,e1⟩:=I.base.slot b o e n hb hx
  obtain ⟨sl',e2⟩:=slot b _ (neL b o e) hb (neC b o e hx) e1 (I.base.free b o e n hx)
  exact ⟨sl',e2⟩
 ·obtain ⟨o',e1⟩:=I.base.there b o e hx
  exact free b o' (neC b o e hx) e1 (I.base.free b o e n hx)
 ·obtain ⟨o',e1⟩:=I.base.there b o e hx
  exact there b o' (neC b o e hx) e1
 ·obtain ⟨m1,e1⟩:=I.base.tbls b ps e
  obtain ⟨m2,e2⟩:=tbls b _ e1
  exact ⟨m1++m2,by rw [e2,Array.append_assoc]⟩
 ·obtain ⟨m,hn,hl⟩:=I.loc
  refine ⟨m,ns m hn,λi x v e1 e2 e3=>?_⟩
  obtain ⟨u,r,l⟩:=hl i x v e1 e2 e3
  refine ⟨u,r,?_⟩
  rcases l with l | ⟨k,c,e,z⟩
  ·exact .inl l
  ·exact .inr ⟨k,c,e,cellK x c e _ z⟩
 ·obtain ⟨v,z⟩:=I.cell x c e
  exact ⟨v,cellK x c e v z⟩
 ·obtain ⟨m,⟨o,_,_,ho,_⟩,_⟩:=I.loc
  exact free _ o (λz=>(hch _ z).2.1 rfl) ho I.free
 ·obtain ⟨v,o,ho,hd⟩:=I.cell x c e
  exact free c o (λz=>(hch c z).2.2.1 x c e rfl) ho (I.freeC x c e)
 ·obtain ⟨e,n,ne,nf,d⟩:=I.pin p hp
  have nch:p.1∉ch:=λz=>(hch p.1 z).2.2.2 p hp rfl
  exact ⟨keep p.1 p.2 ne nf nch e n,free p.1 p.2 nch e n,ne,nf,d⟩
theorem Inv.un {t':Nat}(I:Inv X pins σ H s) (u:Un X.fs [] H H' s.heap h') (hok:HOk X.prog X.w H' h'):Inv X pins σ H' { s with heap:=h',toks:=t' }:=by
 obtain ⟨m,⟨o,es,ep,ho,r⟩,_⟩:=id I.loc
 obtain ⟨sl,hL⟩:=u.any ho I.free (by simp)
 exact I.step (g':=s.gens) (d':=s.drawn) (ch:=[]) (λ_ z=>nomatch z) (λb o _ hb _ e n=>u.keep b o e n hb (by simp)) (λb o _ hb _ e n=>u.slot b o e n hb (by simp)) (λb o _ e n=>u.free b o e n (by simp)) (λb o _ e=>u.there b o e (by simp)) u.tups u.frzs u.tbls (λm' hm=>by
  obtain ⟨o',es',ep',ho',r'⟩:=hm
  rw [ho] at ho';cases ho'
  exact ⟨_,es',ep',hL,r'⟩) hok I.bare
theorem Inv.call {g':Array pZ}{t':Nat}{d':Drawn}{ch:List Addr}(I:Inv X pins σ H s) (u:Un (frs X.stack) ch H H' s.heap h') (hok:HOk X.prog X.w H' h') (hg:fO g')
  (hch:∀b∈ch,(b∈X.ex\/X.s₀.heap.objs.size<=b)/\b≠X.env.locals/\(∀x c,X.env.cells.lookup x=some c->c≠b)/\∀p∈X.pn++pins,p.1≠b) :
  Inv X pins σ H' { s with heap:=h',gens:=g',drawn:=d',toks:=t' }:=by
 obtain ⟨m,⟨o,es,ep,ho,r⟩,_⟩:=id I.loc
 obtain ⟨sl,hL⟩:=u.any ho I.free λz=>(hch _ z).2.1 rfl
 exact I.step (ch:=ch) hch (λb o hL hb hc e n=>u.keep b o e n (λz=>(List.mem_cons.mp (I.stkSub b z)).elim hL hb) hc) (λb o _ _ hc e n=>u.any e n hc) (λb o hc e n=>u.free b o e n hc) (λb o hc e=>u.there b o e hc) u.tups u.frzs u.tbls (λm' hm=>by
  obtain ⟨o',es',ep',ho',r'⟩:=hm
  rw [ho] at ho';cases ho'
  exact ⟨_,es',ep',hL,r'⟩) hok hg
theorem Inv.turned {t':Nat}{it:Addr}(I:Inv X pins σ H s) (k:∀b o,b≠it->s.heap.get? b=some o->h'.get? b=some o) (hn:H it=none) (hL:it≠X.env.locals)
  (h1:it∈X.ex\/X.s₀.heap.objs.size<=it) (h2:∀x c,X.env.cells.lookup x=some c->c≠it) (h3:∀p∈X.pn++pins,p.1≠it):Inv X pins σ H { s with heap:=h',toks:=t' }:=by
 have nit:∀b u,H b=some u->b≠it:=λb u e z=>by rw [z,hn] at e;cases e
 refine I.step (g':=s.gens) (d':=s.drawn) (ch:=[it]) (λb hb=>?_) (λb o _ _ hc e _=>k b o (λz=>hc (by simp [z])) e) (λb o _ _ hc e _=>⟨o.slots,k b o (λz=>hc (by simp [z])) e⟩) (λ_ _ _ _ n=>n)
  (λb o hc e=>⟨o,k b o (λz=>hc (by simp [z])) e⟩) (λ_ _ e=>e) (λ_ _ _ e=>e) (λb ps e=>⟨#[],by rw [e];simp⟩) (λm hm=>?_) (λb u e=>?_) I.bare
 ·have e:b=it:=by simpa using hb
  subst e
  exact ⟨h1,hL,h2,h3⟩
 ·obtain ⟨o,es,ep,ho,r⟩:=hm
  exact ⟨o,es,ep,k _ o (c5 hL) ho,r⟩
 ·refine (I.hok b u e).stay (λc v hc q=>k c v ?_ q) (λ_ q=>q) λ_ _ q=>q
  rcases hc with z | z
  ·rw [z];exact nit b u e
  ·exact nit c _ z
theorem Inv.tok (I:Inv X pins σ H s) (t:Nat):Inv X pins σ H { s with toks:=t }:=I.un (h':=s.heap) (t':=t) Un.refl I.hok
theorem Inv.kept {t':Nat}(I:Inv X pins σ H s) (k:∀b u,s.heap.get? b=some u->h'.get? b=some u):Inv X pins σ H { s with heap:=h',toks:=t' }:=I.un (Un.kept k) (I.hok.kept k)
theorem Inv.laid {a:Addr}{o:HO}{t':Nat}(I:Inv X pins σ H s) (k:∀b u,s.heap.get? b=some u->h'.get? b=some u) (hp:s.heap.objs.size<=a) (new:qk X.prog X.w (upd H a o) h' a o) :
  Inv X pins σ (upd H a o) { s with heap:=h',toks:=t' }:=I.un (Un.laid k hp (I.hok.fresh hp)) (I.hok.laid k hp new)
theorem Inv.write {x e:Addr}{o:HO}{t':Nat}(I:Inv X pins σ H s) (mu:Mut (H x)) (he:e=x\/H e=some (.own x)) (k:∀b u,b≠e->s.heap.get? b=some u->h'.get? b=some u) (heo:∃u,h'.get? e=some u)
  (new:qk X.prog X.w (upd H x o) h' x o):Inv X pins σ (upd H x o) { s with heap:=h',toks:=t' }:=I.un (Un.write mu he k heo) (I.hok.write mu he k heo new)
theorem Inv.pins_of {pins':List (Addr×Obj)}(I:Inv X pins σ H s) (h:∀p∈pins',s.heap.get? p.1=some p.2/\H p.1=none/\p.1≠X.env.locals/\p.1∉X.fs/\∀v,p.2.data≠.cell v):Inv X pins' σ H s :=
 ⟨I.ok,I.os,I.bare,I.base,I.loc,I.cell,I.free,I.freeC,λp hp=>(List.mem_append.mp hp).elim (λz=>I.pin p (fS _ z)) (h p),I.hok,I.len⟩
theorem Jz {N:List Str}(hN:N.Nodup) {i j:Nat}{x:Str}(a:N[i]? = some x) (b:N[j]? = some x):i=j:=by
 obtain ⟨h1,e1⟩:=List.getElem?_eq_some_iff.mp a
 obtain ⟨h2,e2⟩:=List.getElem?_eq_some_iff.mp b
 exact (List.getElem_inj hN).mp (e1.trans e2.symm)
theorem wV {M:rH}{A:ba}{E:ag->Shared->Prop}{i:Nat}{x:Str}{v:V}{u:ag}{Q:Unit->Shared->Prop}(I:Inv X pins σ H s) (hN:X.N.Nodup) (hi:X.N[i]? = some x) (hx:Loc X.env.scope x) (r:jA v u)
  (h:∀s',Inv X pins (σ.set i (some v)) H s'->(∃a,dJ a s.heap s'.heap/\(a=X.env.locals\/X.env.cells.lookup x=some a))->Q () s') (hf:X.fn x=true\/X.env.scope.names.lookup x=some .local:=by first | exact .inl rfl | exact .inr rfl | assumption):ay M A (storeName X.env x u) Q E s:=by
 obtain ⟨m,hn,hl⟩:=id I.loc
 have hcls:(X.env.scope.kind == .class || (X.env.scope.kind == .module && X.env.locals != X.env.globals))=false:=by rw [I.ok.kind];rfl
 have hiσ:i<σ.length:=by rw [I.len];exact (List.getElem?_eq_some_iff.mp hi).1
 have cne:=I.cne
 have tracked:∀{a:Addr} {h':Heap},(∃o,s.heap.get? a=some o/\H a=none)->dJ a s.heap h'->HOk X.prog X.w H h':=λ{a h'} ha hs b ob e=>by
  obtain ⟨_,_,hfree⟩:=ha
  refine (I.hok b ob e).stay (λc w' hc q=>(hs.2 c ?_).trans q) (λ_ q=>q) λ_ _ q=>q
  rintro rfl
  rcases hc with rfl | hc
  ·rw [hfree] at e;cases e
  ·rw [hfree] at hc;cases hc
 rcases hx with hk | hk
 ·refine wpAny_storeName_local hk hn (λh' hn' hs=>?_) hcls
  obtain ⟨oL,_,_,hoL,_⟩:=id hn
  refine h _ ⟨I.ok,I.os,I.bare,⟨λb o e n hb hx=>?_,λb o e n hb hx=>?_,I.base.free,λb o e hx=>?_,I.base.tups,I.base.frzs,I.base.tbls⟩,⟨_,hn',λj y v' e1 e2 e3=>?_⟩,λy c e=>?_,I.free,I.freeC,λp hp=>?_,tracked ⟨oL,hoL,I.free⟩ hs,by simpa using I.len⟩ ⟨_,hs,.inl rfl⟩
  ·exact (hs.2 b (aA (aK (ar e) I.ok.above))).trans (I.base.keep b o e n hb hx)
  ·obtain ⟨sl,e1⟩:=I.base.slot b o e n hb hx
   exact ⟨sl,(hs.2 b (aA (aK (ar e) I.ok.above))).trans e1⟩
  ·obtain ⟨o',e1⟩:=I.base.there b o e hx
   exact ⟨o',(hs.2 b (aA (aK (ar e) I.ok.above))).trans e1⟩
  ·by_cases hj:j=i
   ·subst hj
    rw [hi] at e1;cases e1
    rw [lg hiσ] at e2
    cases e2
    exact ⟨u,r,.inl ⟨hk,by simp⟩⟩
   ·rw [lU (c5 hj)] at e2
    obtain ⟨u',r',q⟩:=hl j y v' e1 e2 e3
    refine ⟨u',r',?_⟩
    rcases q with ⟨k,e⟩ | ⟨k,c,e,z⟩
    ·refine .inl ⟨k,?_⟩
     have:y≠x:=λe=>hj (Jz hN e1 (e ▸ hi))
     simp [this,e]
    ·exact .inr ⟨k,c,e,z.sameBut hs (cne y c e)⟩
  ·obtain ⟨w',z⟩:=I.cell y c e
   exact ⟨w',z.sameBut hs (cne y c e)⟩
  ·obtain ⟨e,n,ne,nf,d⟩:=I.pin p hp
   exact ⟨(hs.2 p.1 ne).trans e,n,ne,nf,d⟩
 ·have hfn:X.fn x=true:=by
   rcases hf with z | z
   ·exact z
   ·rw [z] at hk;cases hk
  obtain ⟨c,hc⟩:=I.ok.has x (.inl hk)
  obtain ⟨w',z⟩:=I.cell x c hc
  refine wpAny_storeName_cell I.ok.kind hk hc z (λh' hc' hs=>?_)
  obtain ⟨oc,hoc,hocd⟩:=id z
  refine h { s with heap:=h' } ⟨I.ok,I.os,I.bare,⟨λb o e n hb hx=>?_,λb o e n hb hx=>?_,I.base.free,λb o e hx=>?_,I.base.tups,I.base.frzs,I.base.tbls⟩,⟨m,hn.sameBut hs (c5 (cne x c hc)),λj y v' e1 e2 e3=>?_⟩,λy c' e=>?_,I.free,I.freeC,λp hp=>?_,tracked ⟨oc,hoc,I.freeC x c hc⟩ hs,by simpa using I.len⟩ ⟨c,hs,.inr hc⟩
  ·exact (hs.2 b (aA (aK (ar e) (I.ok.cab x c hfn hc)))).trans (I.base.keep b o e n hb hx)
  ·obtain ⟨sl,e1⟩:=I.base.slot b o e n hb hx
   exact ⟨sl,(hs.2 b (aA (aK (ar e) (I.ok.cab x c hfn hc)))).trans e1⟩
  ·obtain ⟨o',e1⟩:=I.base.there b o e hx
   exact ⟨o',(hs.2 b (aA (aK (ar e) (I.ok.cab x c hfn hc)))).trans e1⟩
  ·by_cases hj:j=i
   ·subst hj
    rw [hi] at e1;cases e1
    rw [lg hiσ] at e2
    cases e2
    exact ⟨u,r,.inr ⟨.inl hk,c,hc,hc'⟩⟩
   ·rw [lU (c5 hj)] at e2
    obtain ⟨u',r',q⟩:=hl j y v' e1 e2 e3
    refine ⟨u',r',?_⟩
    rcases q with q | ⟨k,c',e,z'⟩
    ·exact .inl q
    ·refine .inr ⟨k,c',e,z'.sameBut hs ?_⟩
     rintro rfl
     exact hj (Jz hN e1 (I.ok.inj _ _ _ e hc ▸ hi))
  ·by_cases hcc:c'=c
   ·subst hcc;exact ⟨_,hc'⟩
   ·obtain ⟨w2,z2⟩:=I.cell y c' e
    exact ⟨w2,z2.sameBut hs hcc⟩
  ·obtain ⟨e,n,ne,nf,d⟩:=I.pin p hp
   refine ⟨(hs.2 p.1 ?_).trans e,n,ne,nf,d⟩
   intro q
   rw [q,hoc] at e
   have q':oc=p.2:=aQ e
   exact d w' (by rw [<- q'];exact hocd)
theorem gC {M:rH}{A:ba}{E:ag->Shared->Prop}{i:Nat}{x:Str}{v:V}{u:ag}{Q:Unit->Shared->Prop}(I:Inv X pins σ H s) (hN:X.N.Nodup) (hi:X.N[i]? = some x) (hx:Loc X.env.scope x) (r:jA v u)
  (h:∀s',Inv X pins (σ.set i (some v)) H s'->Q () s') (hf:X.fn x=true\/X.env.scope.names.lookup x=some .local:=by first | exact .inl rfl | exact .inr rfl | assumption):ay M A (storeName X.env x u) Q E s :=
 wV I hN hi hx r (λs' I' _=>h s' I') hf
theorem Inv.call' {s':Shared}{ch:List Addr}(I:Inv X pins σ H s) (ho:s'.os=s.os) (u:Un (frs X.stack) ch H H' s.heap s'.heap) (hok:HOk X.prog X.w H' s'.heap) (hg:fO s'.gens)
  (hch:∀b∈ch,(b∈X.ex\/X.s₀.heap.objs.size<=b)/\b≠X.env.locals/\(∀x c,X.env.cells.lookup x=some c->c≠b)/\∀p∈X.pn++pins,p.1≠b):Inv X pins σ H' s':=by
 obtain ⟨h',g',d',t',o'⟩:=s'
 have e:o'=s.os:=ho
 subst e
 exact I.call (g':=g') (t':=t') (d':=d') u hok hg hch
end
abbrev XK:=ag->Option Addr->Hp->Prop
abbrev St:=List (Option V)
abbrev VK:=V->Hp->Prop
abbrev TE:=St->Hp->VK->Prop
abbrev TT:=St->Hp->(Bool->Hp->Prop)->Prop
abbrev TA:=St->Hp->(List V->Hp->Prop)->Prop
structure Ends where
 nx:St->Hp->Prop
 rt:VK
 bk:St->Hp->Prop:=λ_ _=>False
 ct:St->Hp->Prop:=λ_ _=>False
abbrev TS:=Ends->St->Hp->Prop
def EP (X:Cx) (pins:List (Addr×Obj)) (σ:St) (Q:VK) (u:ag) (s':Shared):Prop:=∃v H',Inv X pins σ H' s'/\jA v u/\Q v H'
def TP (X:Cx) (pins:List (Addr×Obj)) (σ:St) (Q:Bool->Hp->Prop) (b:Bool) (s':Shared):Prop:=∃H',Inv X pins σ H' s'/\Q b H'
def AP (X:Cx) (pins:List (Addr×Obj)) (σ:St) (Q:List V->Hp->Prop) (us:List ag) (s':Shared):Prop:=∃vs H',Inv X pins σ H' s'/\jx vs us/\Q vs H'
def SP (X:Cx) (pins:List (Addr×Obj)) (D:Ends) (f:Flow) (s':Shared):Prop :=
 match f with
 | .next=>∃σ' H',Inv X pins σ' H' s'/\D.nx σ' H'
 | .brk=>∃σ' H',Inv X pins σ' H' s'/\D.bk σ' H'
 | .cont=>∃σ' H',Inv X pins σ' H' s'/\D.ct σ' H'
 | .ret u=>∃v σ' H',Inv X pins σ' H' s'/\jA v u/\D.rt v H'
def PE (X:Cx) (e:Expr) (t:TE):Prop :=
 ∀(pins:List (Addr×Obj)) (s:Shared) (σ:St) (H:Hp) (Q:VK),Inv X pins σ H s->t σ H Q->ay (aC X.prog X.w) X.A (eval e X.env) (EP X pins σ Q) X.xe s
def PT (X:Cx) (e:Expr) (t:TT):Prop :=
 ∀(pins:List (Addr×Obj)) (s:Shared) (σ:St) (H:Hp) (Q:Bool->Hp->Prop),Inv X pins σ H s->t σ H Q->ay (aC X.prog X.w) X.A (isTrue e X.env (eval e X.env)) (TP X pins σ Q) X.xe s
def PW (X:Cx) (e:Expr) (t:TT):Prop :=
 ∀(whole:Sem ag) (pins:List (Addr×Obj)) (s:Shared) (σ:St) (H:Hp) (Q:Bool->Hp->Prop),Inv X pins σ H s->t σ H Q->ay (aC X.prog X.w) X.A (isTrue e X.env whole) (TP X pins σ Q) X.xe s
theorem PW.pt {X:Cx}{e:Expr}{t:TT}(h:PW X e t):PT X e t:=h _
def PA (X:Cx) (es:List Expr) (t:TA):Prop :=
 ∀(pos:Pos) (pins:List (Addr×Obj)) (s:Shared) (σ:St) (H:Hp) (Q:List V->Hp->Prop),Inv X pins σ H s->t σ H Q->ay (aC X.prog X.w) X.A (spliced (ck pos (aH es X.env))) (AP X pins σ Q) X.xe s
def PS (X:Cx) (st:Stmt) (t:TS):Prop :=
 ∀(pins:List (Addr×Obj)) (s:Shared) (σ:St) (H:Hp) (D:Ends),Inv X pins σ H s->t D σ H->ay (aC X.prog X.w) X.A (exec st X.env) (SP X pins D) X.xe s
def PSs (X:Cx) (st:List Stmt) (t:TS):Prop :=
 ∀(pins:List (Addr×Obj)) (s:Shared) (σ:St) (H:Hp) (D:Ends),Inv X pins σ H s->t D σ H->ay (aC X.prog X.w) X.A (execs st X.env) (SP X pins D) X.xe s
theorem thn {α:Type}{t:Sem α}{Q Q':α->Shared->Prop}{M:rH}{A:ba}{E:ag->Shared->Prop}{s:Shared}(h:ay M A t Q E s) (hQ:∀a s,Q a s->Q' a s):ay M A t Q' E s:=aX h hQ λ_ _ x=>x
end L2
namespace L2
section
variable {X:Cx}
theorem bin {a b:Expr}{ta tb:TE}(ha:PE X a ta) (hb:PE X b tb) {pins:List (Addr×Obj)}{s:Shared}{σ:St}{H:Hp}{R:V->V->Hp->Prop}(I:Inv X pins σ H s) (h:ta σ H λx H1=>tb σ H1 λy H2=>R x y H2)
  {α:Type} {Q:α->Shared->Prop} {f:ag->ag->Sem α}
  (hf:∀v u s2 x y H2,Inv X pins σ H2 s2->jA x v->jA y u->R x y H2->ay (aC X.prog X.w) X.A (f v u) Q X.xe s2) :
  ay (aC X.prog X.w) X.A (eval a X.env) (λv s₁=>ay (aC X.prog X.w) X.A (eval b X.env) (λu s₂=>ay (aC X.prog X.w) X.A (f v u) Q X.xe s₂) X.xe s₁) X.xe s:=by
 refine thn (ha pins s σ H _ I h) λv s1 ⟨x,H1,I1,r1,q1⟩=>?_
 refine thn (hb pins s1 σ H1 _ I1 q1) λu s2 ⟨y,H2,I2,r2,q2⟩=>?_
 exact hf v u s2 x y H2 I2 r1 r2 q2
def Vy (i:Nat):TE:=λσ H Q=>∃v,σ[i]? = some (some v)/\Q v H
def tC (v:V):TE:=λ_ H Q=>Q v H
theorem Vw {i:Nat}{x:Str}{pos:Pos}(hN:X.N[i]? = some x) (hv:Vis X.env.scope x) (hd:(x == ("__debug__" : Str))=false:=by decide) (hcd:(x == ("__classdict__" : Str))=false:=by decide):PE X (.Name x pos) (Vy i):=by
 intro pins s σ H Q I h
 obtain ⟨v,e,h⟩:=h
 obtain ⟨m,hn,hl⟩:=I.loc
 obtain ⟨u,r,l⟩:=hl i x v hN e hv
 have fin:EP X pins σ Q u s:=⟨v,H,I,r,h⟩
 rcases l with ⟨hk,hm⟩ | ⟨hk,c,hc,hcell⟩
 ·exact oS (wpAny_loadName_local I.ok.kind hk hn hm fin) hd
 ·rcases hk with hk | hk
  ·exact oS (wpAny_loadName_cell I.ok.kind hk hc hcell fin) hd
  ·exact oS (wpAny_loadName_free I.ok.kind hk hc hcell fin hcd) hd
theorem j7 {i j pos}:PE X (.Constant (.int i) j pos) (tC (.int i)):=λ_ _ _ H _ I h=>wpAny_Constant_int ⟨.int i,H,I.tok _,⟨_,rfl⟩,h⟩
theorem Je {b j pos}:PE X (.Constant (.bool b) j pos) (tC (.bl b)):=λ_ _ _ H _ I h=>Constant_bool ⟨.bl b,H,I,rfl,h⟩
theorem JP {j pos}:PE X (.Constant .none j pos) (tC .non):=λ_ _ _ H _ I h=>Constant_none ⟨.non,H,I,rfl,h⟩
theorem jt {x j pos}:PE X (.Constant (.str x) j pos) (tC (.str x)):=λ_ _ _ H _ I h=>Calls.Constant_str ⟨.str x,H,I.tok _,⟨_,rfl⟩,h⟩
def Gl (X:Cx) (x:Str):Prop:=X.env.kindOf x=some .globalImplicit
theorem yQ {E:ag->Shared->Prop}{pins:List (Addr×Obj)}{s:Shared}{σ:St}{H:Hp}{x:Str}{u:ag}{pos:Pos}{Q:ag->Shared->Prop}(I:Inv X pins σ H s) (hg:Gl X x) (hm:X.mg x=some u) (h:Q u s)
  (hd:(x == ("__debug__" : Str))=false:=by decide):ay (aC X.prog X.w) X.A (eval (.Name x pos) X.env) Q E s :=
 il I.ok.kind hg (Calls.loadGlobal_global (by rw [I.ok.glob];exact I.mod.glob.keeps I.bk) hm h) hd
theorem zI {E:ag->Shared->Prop}{pins:List (Addr×Obj)}{s:Shared}{σ:St}{H:Hp}{x:Str}{u:ag}{pos:Pos}{Q:ag->Shared->Prop}(I:Inv X pins σ H s) (hg:Gl X x) (hm:X.mg x=none) (hv:ic x=some u) (h:Q u s)
  (hn:x ≠ "__name__":=by decide) (hd:(x == ("__debug__" : Str))=false:=by decide):ay (aC X.prog X.w) X.A (eval (.Name x pos) X.env) Q E s:=by
 obtain ⟨mb,h1,h2⟩:=I.mod.blt
 exact il I.ok.kind hg (Calls.loadGlobal_builtin (by rw [I.ok.glob];exact I.mod.glob.keeps I.bk) hm (by rw [I.ok.blt];exact h1.keeps I.bk) ((h2 x hn).trans hv) h) hd
theorem qU {x:Str}{v:V}{u:ag}{pos:Pos}(hg:Gl X x) (hm:X.mg x=some u) (r:jA v u) (hd:(x == ("__debug__" : Str))=false:=by decide):PE X (.Name x pos) (tC v) :=
 λ_ _ _ H _ I h=>yQ I hg hm ⟨v,H,I,r,h⟩ hd
variable {a b:Expr}{ta tb:TE}{pos:Pos}
def PC (X:Cx) (op:oU) (a b:Expr) (t:TE):Prop :=
 ∀(pins:List (Addr×Obj)) (s:Shared) (σ:St) (H:Hp) (Q:VK),Inv X pins σ H s->t σ H Q ->
  ay (aC X.prog X.w) X.A (eval a X.env) (λv s₁=>ay (aC X.prog X.w) X.A (eval b X.env) (λu s₂=>ay (aC X.prog X.w) X.A (cc op v u) (EP X pins σ Q) X.xe s₂) X.xe s₁) X.xe s
theorem ZS (b:Expr) {op:oU}(h:op≠.In) (h2:op≠.NotIn):dU op b=false:=by
 have e1:(op == CmpOp.In)=false:=by cases op <;> first | rfl | exact absurd rfl h
 have e2:(op == CmpOp.NotIn)=false:=by cases op <;> first | rfl | exact absurd rfl h2
 cases b <;> simp [dU,e1,e2]
def tB (t:TE):TT:=λσ H Q=>t σ H λx H1=>∃c,x = .bl c/\Q c H1
theorem pt_cmp {op:oU}{t:TE}(h:PC X op a b t) (h1:dU op b=false:=by first | exact ZS _ ⋯ ⋯ | rfl):PT X (.Compare a [op] [b] pos) (tB t):=by
 intro pins s σ H Q I hw
 refine lP (thn (h pins s σ H _ I hw) λv s1 h1=>thn h1 λu s2 h2=>thn h2 λc s3 ⟨x,H1,I1,r1,q1⟩=>?_) h1
 obtain ⟨d,rfl,q⟩:=q1
 cases r1
 exact bT ⟨H1,I1,q⟩
theorem uZ {e:Expr}{t:TE}(h:PE X e t) (he:∀whole,isTrue e X.env whole=(do let v <- whole;eU e.pos;eF [v] (truthy v)):=by intro _;rfl):PT X e (tB t):=by
 intro pins s σ H Q I hw
 refine isTrue_plain (thn (h pins s σ H _ I hw) λv s1 ⟨x,H1,I1,r1,q1⟩=>?_) (he _)
 obtain ⟨d,rfl,q⟩:=q1
 cases r1
 exact bT ⟨H1,I1,q⟩
variable {tA tB':TT}{yN:List Expr}
def tAnd (t u:TT):TT:=λσ H Q=>t σ H λc H1=>if c=true then u σ H1 Q else Q false H1
def tOr (t u:TT):TT:=λσ H Q=>t σ H λc H1=>if c=true then Q true H1 else u σ H1 Q
def tNot (t:TT):TT:=λσ H Q=>t σ H λc H1=>Q (!c) H1
theorem QH (ha:PT X a tA):PW X (.BoolOp .And [a] pos) tA:=by
 intro wh pins s σ H Q I h
 refine isTrue_and (thn (ha pins s σ H Q I h) λc s1 e=>?_)
 cases c with
 | true=>exact isTrue_and_nil e
 | false=>exact e
theorem ZP (ha:PT X a tA):PW X (.BoolOp .Or [a] pos) tA:=by
 intro wh pins s σ H Q I h
 refine isTrue_or (thn (ha pins s σ H Q I h) λc s1 e=>?_)
 cases c with
 | false=>exact isTrue_or_nil e
 | true=>exact e
theorem Zl (ha:PT X a tA) (hb:PW X (.BoolOp .And (b::yN) pos) tB'):PW X (.BoolOp .And (a::b::yN) pos) (tAnd tA tB'):=by
 intro wh pins s σ H Q I h
 refine isTrue_and (thn (ha pins s σ H _ I h) λc s1 ⟨H1,I1,q1⟩=>?_)
 cases c with
 | true=>exact hb wh pins s1 σ H1 Q I1 q1
 | false=>exact ⟨H1,I1,q1⟩
theorem Vi (ha:PT X a tA) (hb:PW X (.BoolOp .Or (b::yN) pos) tB'):PW X (.BoolOp .Or (a::b::yN) pos) (tOr tA tB'):=by
 intro wh pins s σ H Q I h
 refine isTrue_or (thn (ha pins s σ H _ I h) λc s1 ⟨H1,I1,q1⟩=>?_)
 cases c with
 | true=>exact ⟨H1,I1,q1⟩
 | false=>exact hb wh pins s1 σ H1 Q I1 q1
theorem xo (ha:PT X a tA):PT X (.UnaryOp .Not a pos) (tNot tA):=by
 intro pins s σ H Q I h
 exact isTrue_not (ha pins s σ H (λc H1=>Q (!c) H1) I h)
def Up (ta tb:TE):TE:=λσ H Q=>ta σ H λx H1=>∃c,x = .bl c/\if c=true then tb σ H1 Q else Q (.bl false) H1
theorem Qq {op}{t:TE}(h:PE X a t):PE X (.BoolOp op [a] pos) t:=λpins s σ H Q I hw=>BoolOp_one (h pins s σ H Q I hw)
theorem gm (ha:PE X a ta) (hb:PE X (.BoolOp .And (b::yN) pos) tb):PE X (.BoolOp .And (a::b::yN) pos) (Up ta tb):=by
 intro pins s σ H Q I h
 refine BoolOp_and (thn (ha pins s σ H _ I h) λv s1 ⟨x,H1,I1,r1,q1⟩=>?_)
 obtain ⟨c,rfl,q1⟩:=q1
 cases r1
 refine bT ?_
 cases c with
 | true=>exact hb pins s1 σ H1 Q I1 q1
 | false=>exact ⟨.bl false,H1,I1,rfl,q1⟩
end
end L2
namespace L2
def SqL (K:aj) (H:Hp) (a:Addr) (xs:List V):Prop :=
 Rd H a (.lst xs) \/
  ∃(o:Obj) (its:Array ag) (n:Nat),K.lookup a=some o/\o.cls = .type "list" /\ o.dict=none/\o.data = .seq its n/\its.size<=sizeLine/\jx xs its.toList
def SqT (K:aj) (H:Hp) (a:Addr) (xs:List V):Prop :=
 Rd H a (.tup xs) \/
  ∃(o:Obj) (its:Array ag) (n:Nat),K.lookup a=some o/\o.cls = .type "tuple" /\ o.data = .seq its n/\its.size<=sizeLine/\jx xs its.toList
def absV:ag->Option V
 | .none=>some .non
 | .bool b=>some (.bl b)
 | .int i _=>some (.int i)
 | .str x _=>some (.str x)
 | .bytes b _=>some (.byt b)
 | .float b _=>some (.flt b)
 | .ref a=>some (.ref a)
 | .type n=>some (.ty n)
 | _=>none
theorem jA.abs {x:V}{u:ag}(r:jA x u):absV u=some x:=by
 cases x with
 | non=>cases r;rfl
 | bl _=>cases r;rfl
 | int _=>obtain ⟨t,rfl⟩:=r;rfl
 | str _=>obtain ⟨t,rfl⟩:=r;rfl
 | byt _=>obtain ⟨t,rfl⟩:=r;rfl
 | flt _=>obtain ⟨t,rfl⟩:=r;rfl
 | ref _=>cases r;rfl
 | ty _=>cases r;rfl
theorem jA.inj {x y:V}{u:ag}(r:jA x u) (q:jA y u):x=y:=aQ (r.abs.symm.trans q.abs)
theorem jx.inj:∀{xs ys:List V}{us:List ag},jx xs us->jx ys us->xs=ys
 | _,_,_,.nil,.nil=>rfl
 | _,_,_,.cons r t,.cons r' t'=>by rw [r.inj r',jx.inj t t']
section
variable {X:Cx}{pins:List (Addr×Obj)}{σ:St}{H:Hp}{s:Shared}{a:Addr}{xs ys:List V}
theorem SqL.of {K:aj}(h:H a=some (.lst xs)):SqL K H a xs:=.inl (.inl h)
theorem SqT.of {K:aj}(h:H a=some (.tup xs)):SqT K H a xs:=.inl (.inl h)
theorem Inv.list (I:Inv X pins σ H s) (h:SqL X.K H a xs):∃its:List ag,jx xs its/\PlainL s.heap a its.toArray/\xs.length<=sizeLine:=by
 rcases h with h | ⟨o,its,n,hk,hc,hd,hs,hz,r⟩
 ·obtain ⟨z,its,n,r,e⟩:=h.ok I.hok
  exact ⟨its,r,⟨_,n,e,rfl,rfl,rfl⟩,z⟩
 ·refine ⟨its.toList,r,⟨o,n,I.kIn a o hk,hc,hd,by simpa using hs⟩,?_⟩
  have e:=r.length
  simp only [bQ] at e
  omega
theorem Inv.tuple (I:Inv X pins σ H s) (h:SqT X.K H a xs):∃its:List ag,jx xs its/\IsTup s.heap a its.toArray/\xs.length<=sizeLine:=by
 rcases h with h | ⟨o,its,n,hk,hc,hs,hz,r⟩
 ·obtain ⟨z,its,r,p⟩:=h.ok I.hok
  exact ⟨its,r,p,z⟩
 ·refine ⟨its.toList,r,⟨o,I.kIn a o hk,hc,n,by simpa using hs⟩,?_⟩
  have e:=r.length
  simp only [bQ] at e
  omega
theorem Inv.list_inj (I:Inv X pins σ H s) (h:SqL X.K H a xs) (h':SqL X.K H a ys):xs=ys:=by
 obtain ⟨its,r,⟨o,n,e,_,_,d⟩,_⟩:=I.list h
 obtain ⟨its',r',⟨o',n',e',_,_,d'⟩,_⟩:=I.list h'
 rw [e] at e';cases e'
 rw [d] at d'
 injection d' with d1 _
 have:its=its':=by simpa using congrArg Array.toList d1
 subst this
 exact r.inj r'
theorem Inv.tuple_inj (I:Inv X pins σ H s) (h:SqT X.K H a xs) (h':SqT X.K H a ys):xs=ys:=by
 obtain ⟨its,r,⟨o,e,_,n,d⟩,_⟩:=I.tuple h
 obtain ⟨its',r',⟨o',e',_,n',d'⟩,_⟩:=I.tuple h'
 rw [e] at e';cases e'
 rw [d] at d'
 injection d' with d1 _
 have:its=its':=by simpa using congrArg Array.toList d1
 subst this
 exact r.inj r'
end
abbrev Cx.wish (X:Cx) (E:ag->Shared->Prop):Cx:={ X with xe:=E }
abbrev Cx.nox (X:Cx):Cx:=X.wish λ_ _=>False
theorem Cx.Ok.wish {X:Cx}(ok:X.Ok) (E:ag->Shared->Prop):(X.wish E).Ok :=
 ⟨ok.mod,ok.kind,ok.glob,ok.blt,ok.above,ok.inj,ok.has,ok.cab,ok.hd,ok.frames,ok.stk,ok.exf,ok.bs,ok.bsz,ok.noex,ok.exfs,ok.funs,ok.frf⟩
theorem Cx.Ok.unwish {X:Cx}{E:ag->Shared->Prop}(ok:(X.wish E).Ok):X.Ok :=
 ⟨ok.mod,ok.kind,ok.glob,ok.blt,ok.above,ok.inj,ok.has,ok.cab,ok.hd,ok.frames,ok.stk,ok.exf,ok.bs,ok.bsz,ok.noex,ok.exfs,ok.funs,ok.frf⟩
section
variable {X:Cx}{pins:List (Addr×Obj)}{σ:St}{H:Hp}{s:Shared}{E:ag->Shared->Prop}
theorem Inv.wish (I:Inv X pins σ H s) (E:ag->Shared->Prop):Inv (X.wish E) pins σ H s:=⟨I.ok.wish E,I.os,I.bare,I.base,I.loc,I.cell,I.free,I.freeC,I.pin,I.hok,I.len⟩
theorem Inv.unwish (I:Inv (X.wish E) pins σ H s):Inv X pins σ H s:=⟨I.ok.unwish,I.os,I.bare,I.base,I.loc,I.cell,I.free,I.freeC,I.pin,I.hok,I.len⟩
theorem SP.unwish {D:Ends}{f:Flow}{s':Shared}(h:SP (X.wish E) pins D f s'):SP X pins D f s':=by
 cases f with
 | next=>obtain ⟨σ',H',I,q⟩:=h;exact ⟨σ',H',I.unwish,q⟩
 | brk=>obtain ⟨σ',H',I,q⟩:=h;exact ⟨σ',H',I.unwish,q⟩
 | cont=>obtain ⟨σ',H',I,q⟩:=h;exact ⟨σ',H',I.unwish,q⟩
 | ret u=>obtain ⟨v,σ',H',I,r,q⟩:=h;exact ⟨v,σ',H',I.unwish,r,q⟩
theorem PE.nox {e:Expr}{t:TE}(h:PE X.nox e t):PE X e t:=λpins s σ H Q I hw =>
 aX (h pins s σ H Q (I.wish _) hw) (λ_ _ ⟨v,H',I',r,q⟩=>⟨v,H',I'.unwish,r,q⟩) λ_ _ z=>bu z
theorem PSs.nox {st:List Stmt}{t:TS}(h:PSs X.nox st t):PSs X st t:=λpins s σ H D I hw =>
 aX (h pins s σ H D (I.wish _) hw) (λ_ _ q=>q.unwish) λ_ _ z=>bu z
end
section
variable {X:Cx}{st:Stmt}{yN:List Stmt}{t u:TS}{e:Expr}{te:TE}{pos:Pos}
def UU:TS:=λD σ H=>D.nx σ H
def tSeq (t u:TS):TS:=λD σ H=>t { D with nx:=u D } σ H
theorem jI:PSs X [] UU:=λ_ _ σ H _ I h=>fY ⟨σ,H,I,h⟩
theorem j6 (h1:PS X st t) (h2:PSs X yN u):PSs X (st::yN) (tSeq t u):=by
 intro pins s σ H D I h
 refine iR (thn (h1 pins s σ H { D with nx:=u D } I h) λf s1 q=>?_)
 cases f with
 | next =>
  obtain ⟨σ',H',I',q⟩:=q
  exact h2 pins s1 σ' H' D I' q
 | ret v=>exact q
 | brk=>exact q
 | cont=>exact q
theorem j9 (h1:PS X st t):PSs X [st] t:=by
 intro pins s σ H D I h
 refine iR (thn (h1 pins s σ H D I h) λf s1 q=>?_)
 cases f with
 | next=>exact fY q
 | ret v=>exact q
 | brk=>exact q
 | cont=>exact q
theorem Inv.quiet {pins:List (Addr×Obj)}{σ:St}{H:Hp}{s:Shared}(I:Inv X pins σ H s):interactive X.env=false:=by simp [interactive,I.ok.kind]
def Um (te:TE):TS:=λD σ H=>te σ H λ_ H1=>D.nx σ H1
theorem jT (he:PE X e te) (hs:ij e none pos.line X.env=pure false:=by rfl):PS X (.Expr e pos) (Um te):=by
 intro pins s σ H D I h
 exact wpAny_Expr_any (thn (he pins s σ H _ I h) λv s1 ⟨x,H1,I1,r1,q1⟩=>⟨σ,H1,I1,q1⟩) I.quiet hs
def tRet (te:TE):TS:=λD σ H=>te σ H D.rt
theorem jn (he:PE X e te):PS X (.Return (some e) pos) (tRet te):=by
 intro pins s σ H D I h
 exact wpAny_Return_some (thn (he pins s σ H _ I h) λv s1 ⟨x,H1,I1,r1,q1⟩=>⟨x,σ,H1,I1,r1,q1⟩)
def tIfS (c:TT) (t u:TS):TS:=λD σ H=>c σ H λb H1=>if b=true then t D σ H1 else u D σ H1
theorem qt {c:Expr}{a b:List Stmt}{tc:TT}(hc:PT X c tc) (ha:PSs X a t) (hb:PSs X b u):PS X (.If c a b pos) (tIfS tc t u):=by
 intro pins s σ H D I h
 refine wpAny_If (thn (hc pins s σ H _ I h) λd s1 ⟨H1,I1,q1⟩=>?_)
 cases d with
 | true=>exact ha pins s1 σ H1 D I1 q1
 | false=>exact hb pins s1 σ H1 D I1 q1
end
abbrev TG:=V->St->Hp->(St->Hp->Prop)->Prop
abbrev TGs:=List V->St->Hp->(St->Hp->Prop)->Prop
def PG (X:Cx) (target:Expr) (t:TG):Prop :=
 ∀(pins:List (Addr×Obj)) (s:Shared) (σ:St) (H:Hp) (v:V) (u:ag) (Q:St->Hp->Prop),Inv X pins σ H s->jA v u->t v σ H Q ->
  ay (aC X.prog X.w) X.A (fZ target X.env u) (λ_ s'=>∃σ' H',Inv X pins σ' H' s'/\Q σ' H') X.xe s
def PGs (X:Cx) (ts:List Expr) (t:TGs):Prop :=
 ∀(pins:List (Addr×Obj)) (s:Shared) (σ:St) (H:Hp) (vs:List V) (us:List ag) (Q:St->Hp->Prop),Inv X pins σ H s->jx vs us->t vs σ H Q ->
  ay (aC X.prog X.w) X.A (assignInOrder ((eW ts X.env).map (·.2)) us) (λ_ s'=>∃σ' H',Inv X pins σ' H' s'/\Q σ' H') X.xe s
abbrev VT:=V->V->V->Hp->(Hp->Prop)->Prop
def Ut (X:Cx) (t:VT):Prop :=
 ∀(pins:List (Addr×Obj)) (s:Shared) (σ:St) (H:Hp) (o i v:V) (ov iv u:ag) (Q:Hp->Prop),Inv X pins σ H s->jA o ov->jA i iv->jA v u->t o i v H Q ->
  ay (aC X.prog X.w) X.A (setItem ov iv u) (λ_ s'=>∃H',Inv X pins σ H' s'/\Q H') X.xe s
section
variable {X:Cx}{pos:Pos}
def wH (i:Nat):TG:=λv σ H Q=>Q (σ.set i (some v)) H
theorem jb {i:Nat}{x:Str}(hN:X.N.Nodup) (hi:X.N[i]? = some x) (hx:Loc X.env.scope x) (hf:X.fn x=true\/X.env.scope.names.lookup x=some .local:=by first | exact .inl rfl | exact .inr rfl | assumption):PG X (.Name x pos) (wH i):=by
 intro pins s σ H v u Q I r h
 exact mU (gC I hN hi hx r (λs' I'=>⟨_,H,I',h⟩) hf)
def gNil:TGs:=λvs σ H Q=>vs=[]/\Q σ H
def UX (t:TG) (u:TGs):TGs:=λvs σ H Q=>∃v r,vs=v::r/\t v σ H λσ' H'=>u r σ' H' Q
theorem qT:PGs X [] gNil:=by
 intro pins s σ H vs us Q I r h
 obtain ⟨e,h⟩:=h
 subst e
 cases r
 exact assignInOrder_nil ⟨σ,H,I,h⟩
theorem js {e:Expr}{es:List Expr}{t:TG}{u:TGs}(h1:PG X e t) (h2:PGs X es u)
  (hs:(eW (e::es) X.env).map (·.2)=fZ e X.env::(eW es X.env).map (·.2):=by rfl):PGs X (e::es) (UX t u):=by
 intro pins s σ H vs us Q I r h
 obtain ⟨v,vr,e1,h⟩:=h
 subst e1
 cases r with
 | cons r rr =>
  rw [hs]
  refine assignInOrder_cons (thn (h1 pins s σ H _ _ _ I r h) λ_ s1 ⟨σ1,H1,I1,q1⟩=>?_)
  exact h2 pins s1 σ1 H1 _ _ Q I1 rr q1
def Uw (K:aj) (n:Nat) (t:TGs):TG:=λv σ H Q=>∃a xs,v = .ref a/\SqT K H a xs/\xs.length=n/\t xs σ H Q
theorem U0 {es:List Expr}{k:Nat}{t:TGs}{n:Nat}(hc:X.calm=true) (h:PGs X es t)
  (hn:(eW es X.env).length=n:=by rfl) (hst:(eW es X.env).findIdx? (·.1)=none:=by rfl):PG X (.Tuple es k pos) (Uw X.K n t):=by
 intro pins s σ H v u Q I r hw
 obtain ⟨a,xs,e1,hq,hl,hw⟩:=hw
 subst e1
 cases r
 obtain ⟨its,rv,ht,hz⟩:=I.tuple hq
 refine assign_Tuple_tuple (I.ok.hd hc) ht (by simp [hn,<- hl,rv.length]) hst λh' hx=>?_
 have I1:Inv X pins σ H { s with heap:=h' }:=I.kept (t':=s.toks) λb o e=>hx b o (aA (ar e)) e
 exact h pins _ σ H xs _ Q I1 (by simpa using rv) hw
def gSub (to ti:TE) (t:VT):TG:=λv σ H Q=>to σ H λo H1=>ti σ H1 λi H2=>t o i v H2 λH3=>Q σ H3
theorem uS {o i:Expr}{to ti:TE}{t:VT}(ho:PE X o to) (hi:PE X i ti) (hs:Ut X t)
  (ha:∀v,fZ (.Subscript o i pos) X.env v=(do
   let ov <- eF [v] (eval o X.env)
   let iv <- eF [v,ov] (eval i X.env)
   eU pos
   eF [v,ov,iv] (setItem ov iv v)
   release [v,ov,iv] []):=by intro _;rfl):PG X (.Subscript o i pos) (gSub to ti t):=by
 intro pins s σ H v u Q I r h
 rw [ha]
 refine ae (bG (thn (ho pins s σ H _ I h) λov s1 ⟨x,H1,I1,r1,q1⟩=>?_))
 refine ae (bG (thn (hi pins s1 σ H1 _ I1 q1) λiv s2 ⟨y,H2,I2,r2,q2⟩=>?_))
 refine ae (cH (ae (bG (thn (hs pins s2 σ H2 x y v ov iv u _ I2 r1 r2 r q2) λ_ s3 ⟨H3,I3,q3⟩=>?_))))
 exact wpAny_release ⟨σ,H3,I3,q3⟩
def Yt (te:TE) (g:TG):TS:=λD σ H=>te σ H λx H1=>g x σ H1 D.nx
theorem zr {tg e:Expr}{te:TE}{g:TG}(he:PE X e te) (hg:PG X tg g) (hs:swapsWithSole [tg] e pos.line X.env=pure false:=by rfl) (hw:swappedStores [tg] e X.env=pure none:=by rfl)
  (h1:(eW [tg] X.env).map (·.2)=[fZ tg X.env]:=by rfl):PS X (.Assign [tg] e pos) (Yt te g):=by
 intro pins s σ H D I h
 refine wpAny_Assign_stores (thn (he pins s σ H _ I h) λv s1 ⟨x,H1,I1,r1,q1⟩=>?_) hs hw
 rw [h1]
 exact thn (hg pins s1 σ H1 x v _ I1 r1 q1) λ_ s2 q=>q
theorem vU {i:Nat}{x:Str}{e:Expr}{te:TE}{pos':Pos}(hN:X.N.Nodup) (hi:X.N[i]? = some x) (hx:Loc X.env.scope x) (he:PE X e te) (hs:ij e (some (.Name x pos')) pos.line X.env=pure false:=by rfl) (hf:X.fn x=true\/X.env.scope.names.lookup x=some .local:=by first | exact .inl rfl | exact .inr rfl | assumption) :
  PS X (.Assign [.Name x pos'] e pos) (Yt te (wH i)):=by
 intro pins s σ H D I h
 refine wpAny_Assign_Name (thn (he pins s σ H _ I h) λv s1 ⟨y,H1,I1,r1,q1⟩=>?_) hs
 exact gC I1 hN hi hx r1 (λs2 I2=>⟨_,H1,I2,q1⟩) hf
theorem jy (i:Nat){x:Str}{e:Expr}{te:TE}{pos':Pos}(hN:X.N.Nodup) (he:PE X e te) (hi:X.N[i]?=some x:=by rfl) (hx:Loc X.env.scope x:=by exact aU rfl) (hs:ij e (some (.Name x pos')) pos.line X.env=pure false:=by rfl) (hf:X.fn x=true\/X.env.scope.names.lookup x=some .local:=by first | exact .inl rfl | exact .inr rfl | assumption):PS X (.Assign [.Name x pos'] e pos) (Yt te (wH i)):=vU hN hi hx he hs hf
end
section
variable {X:Cx}{pos:Pos}
def Zp (c:TT) (tb:TS):TS:=λD σ H=>∃W:Nat->St->Hp->Prop,(∃m,W m σ H)/\∀m σ H,W m σ H ->
 c σ H λb H1=>if b=true then ∃N:St->Hp->Prop,(∀σ' H',N σ' H'->∃m',m'<m/\W m' σ' H')/\tb { D with nx:=N,ct:=N,bk:=D.nx } σ H1 else D.nx σ H1
theorem Js {c:Expr}{body:List Stmt}{tc:TT}{tb:TS}(hp:PassesOwn (aC X.prog X.w) X.A X.env X.xe) (hc:PT X c tc) (hb:PSs X body tb):PS X (.While c body [] pos) (Zp tc tb):=by
 intro pins s σ H D I h
 obtain ⟨W,⟨m0,w0⟩,turn⟩:=h
 refine wpAny_While (codeAny_whileLoop (λn s'=>∃σ' H',Inv X pins σ' H' s'/\W n σ' H') ?_ m0 ⟨σ,H,I,w0⟩)
 rintro n s1 ⟨σ1,H1,I1,w1⟩
 refine df hp (thn (hc pins s1 σ1 H1 _ I1 (turn n σ1 H1 w1)) λb s2 ⟨H2,I2,q2⟩=>?_)
 cases b with
 | true =>
  obtain ⟨N,hN,q2⟩:=q2
  rw [if_pos rfl]
  refine df hp (thn (hb pins s2 σ1 H2 _ I2 q2) λf s3 q3=>?_)
  cases f with
  | next =>
   obtain ⟨σ3,H3,I3,n3⟩:=q3
   obtain ⟨m',hm,w3⟩:=hN σ3 H3 n3
   exact ⟨m',hm,σ3,H3,I3,w3⟩
  | cont =>
   obtain ⟨σ3,H3,I3,n3⟩:=q3
   obtain ⟨m',hm,w3⟩:=hN σ3 H3 n3
   exact ⟨m',hm,σ3,H3,I3,w3⟩
  | brk=>exact q3
  | ret v=>exact q3
 | false =>
  rw [if_neg aq]
  exact fY ⟨σ1,H2,I2,q2⟩
end
structure It where
 go:Nat->Hp->Prop
 yld:Nat->Hp->V->Hp->Prop
 stop:Nat->Hp->Prop
def vE (X:Cx) (pins:List (Addr×Obj)) (H:Hp) (b:Addr):Prop :=
 H b=none/\b≠X.env.locals/\b∉X.fs/\(b∈X.ex\/X.s₀.heap.objs.size<=b)/\(∀x c,X.env.cells.lookup x=some c->c≠b)/\∀p∈X.pn++pins,p.1≠b
theorem Inv.fpOk {X:Cx}{pins:List (Addr×Obj)}{σ:St}{H H':Hp}{s:Shared}{b:Addr}(I:Inv X pins σ H s) (hb:s.heap.objs.size<=b) (hn:H' b=none):vE X pins H' b:=by
 refine ⟨hn,cq (aK I.lt hb),I.nofs hb,.inr (aF I.sz hb),λx c e z=>?_,λp hp z=>?_⟩
 ·obtain ⟨v,q⟩:=I.cell x c e
  exact absurd (aK q.lt (by rw [z];exact hb)) (c3 _)
 ·exact absurd (aK (ar (I.pin p hp).1) (by rw [z];exact hb)) (c3 _)
structure Turn (P:Program) (w:aV) (K:aj) (tg:Expr) (J:It) (fp:List Addr) (it:Addr) (tn:Nat->Heap->Prop):Prop where
 mem:it∈fp
 obj:∀i h,tn i h->∀b∈fp,∃o,h.get? b=some o/\∀v,o.data≠.cell v
 keep:∀i h h',tn i h->(∀b∈fp,∀o,h.get? b=some o->h'.get? b=some o)->tn i h'
 item:∀(X:Cx),X.prog=P->X.w=w->X.K=K->X.calm=true->∀(i:Nat) (pins:List (Addr×Obj)) (s:Shared) (σ:St) (H:Hp) (E:ag->Shared->Prop),Inv X pins σ H s->(∀b∈fp,vE X pins H b)->tn i s.heap->J.go i H ->
  ay (aC P w) X.A (fq (.ref it)) (λr s1=>∃u,r=some u /\
   ay (aC P w) X.A (cQ tg (.ref it) u) (λ_ s2=>∃x H',Inv X pins σ H' s2/\jA x u/\J.yld i H x H'/\tn (i+1) s2.heap/\∀b∈fp,H' b=none) E s1) E s
 done:∀(X:Cx),X.prog=P->X.w=w->X.K=K->X.calm=true->∀(i:Nat) (pins:List (Addr×Obj)) (s:Shared) (σ:St) (H:Hp) (E:ag->Shared->Prop),Inv X pins σ H s->(∀b∈fp,vE X pins H b)->tn i s.heap->J.stop i H ->
  ay (aC P w) X.A (fq (.ref it)) (λr s1=>r=none/\Inv X pins σ H s1) E s
 self:∀(A:ba) (i:Nat) (s:Shared) (Q:ag->Shared->Prop) (E:ag->Shared->Prop),tn i s.heap->Q (.ref it) s->ay (aC P w) A (lV (.ref it)) Q E s
abbrev TI:=St->Hp->(It->Hp->Prop)->Prop
def PIE (X:Cx) (pins:List (Addr×Obj)) (σ:St) (tg:Expr) (R:It->Hp->Prop) (itv:ag) (s2:Shared):Prop :=
 ∃(it:Addr) (fp:List Addr) (tn:Nat->Heap->Prop) (J:It) (H':Hp),itv = .ref it/\Inv X pins σ H' s2/\Turn X.prog X.w X.K tg J fp it tn/\tn 0 s2.heap/\(∀b∈fp,vE X pins H' b)/\R J H'
def PI (X:Cx) (tg iter:Expr) (wi:TI):Prop :=
 ∀(pins:List (Addr×Obj)) (s:Shared) (σ:St) (H:Hp) (R:It->Hp->Prop),Inv X pins σ H s->wi σ H R ->
  ay (aC X.prog X.w) X.A (eval iter X.env) (λv s1=>ay (aC X.prog X.w) X.A (lV v) (PIE X pins σ tg R) X.xe s1) X.xe s
theorem gL {M:rH}{A:ba}{E:ag->Shared->Prop}{s:Shared}{tg:Expr}{it:Addr}{u:ag}{o:Obj}{n:String}{vs:Array ag}{Q:Unit->Shared->Prop}(ho:s.heap.get? it=some o) (hc:o.cls = .type n) (hd:o.data = .fields vs)
  (hn:["enumerate","zip","dict_itemiterator","dict_reverseitemiterator","odict_iterator","itertools.zip_longest","itertools.pairwise"].contains n=false) (hQ:Q () s):ay M A (cQ tg (.ref it) u) Q E s:=by
 unfold cQ
 cases tg <;> first
  | exact wpAny_pure hQ
  | (cases u <;> first
    | exact wpAny_pure hQ
    | (refine ae (wpAny_load ho ?_)
       rw [hc,hd]
       show ay M A (if (["enumerate","zip","dict_itemiterator","dict_reverseitemiterator","odict_iterator","itertools.zip_longest","itertools.pairwise"].contains n && vs[0]? == some (bS _))=true then _ else _) Q E s
       rw [if_neg (by intro h;rw [hn,Bool.false_and] at h;cases h)]
       exact wpAny_pure hQ))
def Itl (K:aj) (a:Addr):It :=
 ⟨λi H=>∃xs x,SqL K H a xs/\xs[i]? = some x,λi H x H'=>H'=H/\∀xs,SqL K H a xs->xs[i]? = some x,λi H=>∃xs,SqL K H a xs/\xs.length<=i⟩
def Itt (K:aj) (a:Addr):It :=
 ⟨λi H=>∃xs x,SqT K H a xs/\xs[i]? = some x,λi H x H'=>H'=H/\∀xs,SqT K H a xs->xs[i]? = some x,λi H=>∃xs,SqT K H a xs/\xs.length<=i⟩
def Itr (lo:Int) (n:Nat):It:=⟨λi _=>i<n,λi H x H'=>H'=H/\x = .int (lo+i),λi _=>n<=i⟩
theorem XV {P:Program}{w:aV}{K:aj}{tg:Expr}(a it:Addr):Turn P w K tg (Itl K a) [it] it (λi h=>h.IsListIter it a i) where
 mem:=by simp
 obj:=λi h st b hb=>by
  have e:b=it:=by simpa using hb
  subst e
  obtain ⟨o,e,c,d⟩:=st
  exact ⟨o,e,λv z=>by rw [d] at z;cases z⟩
 keep:=λi h h' st k=>st.at λo e=>k it (by simp) o e
 item:=by
  intro X hP hw hK hc i pins s σ H E I hf st hg
  subst hP hw hK
  obtain ⟨xs,x,hq,hx⟩:=hg
  obtain ⟨its,rv,p,hz⟩:=I.list hq
  obtain ⟨u,hu,ru⟩:=rv.get hx
  obtain ⟨f0,f1,f2,f3,f4,f5⟩:=hf it (by simp)
  refine lh st p.isList (x:=u) (by simpa using hu) λh' st' sb=>?_
  have I1:Inv X pins σ H { s with heap:=h' }:=I.turned (t':=s.toks) (λb o hb e=>(sb.2 b hb).trans e) f0 f1 f3 f4 f5
  obtain ⟨o,e,c,d⟩:=id st'
  exact ⟨u,rfl,gL (s:={ s with heap:=h' }) e c d ⋯ ⟨x,H,I1,ru,⟨rfl,λys hy=>by rw [I.list_inj hy hq];exact hx⟩,st',λb hb=>(hf b hb).1⟩⟩
 done:=by
  intro X hP hw hK hc i pins s σ H E I hf st hg
  subst hP hw hK
  obtain ⟨xs,hq,hx⟩:=hg
  obtain ⟨its,rv,p,hz⟩:=I.list hq
  obtain ⟨f0,f1,f2,f3,f4,f5⟩:=hf it (by simp)
  have hl:=rv.length
  exact lQ (I.ok.hd hc) st p.isList (by simp;omega) λh' eb=>⟨rfl,I.turned (t':=s.toks) (λb o hb e=>eb b o hb e) f0 f1 f3 f4 f5⟩
 self:=λ_ _ _ _ _ st h=>wpAny_pyIter_listiter st h
theorem JV {P:Program}{w:aV}{K:aj}{tg:Expr}(a it:Addr):Turn P w K tg (Itt K a) [it] it (λi h=>h.IsTupleIter it a i) where
 mem:=by simp
 obj:=λi h st b hb=>by
  have e:b=it:=by simpa using hb
  subst e
  obtain ⟨o,e,c,d⟩:=st
  exact ⟨o,e,λv z=>by rw [d] at z;cases z⟩
 keep:=λi h h' st k=>st.at λo e=>k it (by simp) o e
 item:=by
  intro X hP hw hK hc i pins s σ H E I hf st hg
  subst hP hw hK
  obtain ⟨xs,x,hq,hx⟩:=hg
  obtain ⟨its,rv,p,hz⟩:=I.tuple hq
  obtain ⟨u,hu,ru⟩:=rv.get hx
  obtain ⟨f0,f1,f2,f3,f4,f5⟩:=hf it (by simp)
  refine wpAny_pyNext_tuple_item st (show s.heap.IsTuple a its.toArray from p) (x:=u) (by simpa using hu) λh' st' sb=>?_
  have I1:Inv X pins σ H { s with heap:=h' }:=I.turned (t':=s.toks) (λb o hb e=>(sb.2 b hb).trans e) f0 f1 f3 f4 f5
  obtain ⟨o,e,c,d⟩:=id st'
  exact ⟨u,rfl,gL (s:={ s with heap:=h' }) e c d ⋯ ⟨x,H,I1,ru,⟨rfl,λys hy=>by rw [I.tuple_inj hy hq];exact hx⟩,st',λb hb=>(hf b hb).1⟩⟩
 done:=by
  intro X hP hw hK hc i pins s σ H E I hf st hg
  subst hP hw hK
  obtain ⟨xs,hq,hx⟩:=hg
  obtain ⟨its,rv,p,hz⟩:=I.tuple hq
  obtain ⟨f0,f1,f2,f3,f4,f5⟩:=hf it (by simp)
  have hl:=rv.length
  exact wpAny_pyNext_tuple_end (I.ok.hd hc) st (show s.heap.IsTuple a its.toArray from p) (by simp;omega) λh' eb=>⟨rfl,I.turned (t':=s.toks) (λb o hb e=>eb b o hb e) f0 f1 f3 f4 f5⟩
 self:=λ_ _ _ _ _ st h=>wpAny_pyIter_tupleiter st h
theorem uz {P:Program}{w:aV}{K:aj}{tg:Expr}(it:Addr) (lo:Int) (n:Nat):Turn P w K tg (Itr lo n) [it] it (λi h=>oh h it (lo+(i:Nat)*1) ((n:Int)-(i:Nat)) 1) where
 mem:=by simp
 obj:=λi h st b hb=>by
  have e:b=it:=by simpa using hb
  subst e
  exact ⟨_,st,λv z=>by
   have z':fb _=iS v:=z
   cases z'⟩
 keep:=λi h h' st k=>k it (by simp) _ st
 item:=by
  intro X hP hw hK hc i pins s σ H E I hf st hg
  subst hP hw hK
  obtain ⟨f0,f1,f2,f3,f4,f5⟩:=hf it (by simp)
  have W:=Walks.range (prog:=X.prog) (w:=X.w) (I.ok.hd hc) it lo 1 n
  refine W.item i s _ _ hg st λv h' tk hv st' kk=>?_
  obtain ⟨t,rfl⟩:=hv
  have I1:Inv X pins σ H { s with heap:=h',toks:=tk }:=I.turned (λb o hb e=>kk b o (by simpa using hb) e) f0 f1 f3 f4 f5
  refine ⟨_,rfl,gL (s:={ s with heap:=h',toks:=tk }) (n:="range_iterator") st' rfl rfl ⋯ ⟨.int (lo+i),H,I1,⟨t,?_⟩,⟨rfl,rfl⟩,st',λb hb=>(hf b hb).1⟩⟩
  rw [Int.mul_one]
 done:=by
  intro X hP hw hK hc i pins s σ H E I hf st hg
  subst hP hw hK
  obtain ⟨f0,f1,f2,f3,f4,f5⟩:=hf it (by simp)
  exact wpAny_pyNext_range_end (I.ok.hd hc) st (by have:n<=i:=hg;omega) λh' eb=>⟨rfl,I.turned (t':=s.toks) (λb o hb e=>eb b o hb e) f0 f1 f3 f4 f5⟩
 self:=λ_ _ _ _ _ st h=>wpAny_pyIter_rangeiter st h
end L2
namespace L2
section
variable {X:Cx}{tg:Expr}
def Va (K:aj) (tl:TE):TI:=λσ H R=>tl σ H λx H1=>∃a,x = .ref a/\(∃xs,SqL K H1 a xs)/\R (Itl K a) H1
def Uy (K:aj) (tl:TE):TI:=λσ H R=>tl σ H λx H1=>∃a,x = .ref a/\(∃xs,SqT K H1 a xs)/\R (Itt K a) H1
theorem Yc {l:Expr}{tl:TE}(hl:PE X l tl):PI X tg l (Va X.K tl):=by
 intro pins s σ H R I h
 refine thn (hl pins s σ H _ I h) λv s1 ⟨x,H1,I1,r1,q1⟩=>?_
 obtain ⟨a,e,⟨xs,hq⟩,q⟩:=q1
 subst e
 cases r1
 obtain ⟨its,rv,p,hz⟩:=I1.list hq
 refine cM p.isList ?_
 refine ⟨s1.heap.objs.size,[s1.heap.objs.size],_,_,H1,rfl,I1.kept (t':=s1.toks) λb o e=>ah _ e,XV a _,⟨_,az _ rfl,rfl,rfl⟩,λb hb=>?_,q⟩
 have e:b=s1.heap.objs.size:=by simpa using hb
 subst e
 exact I1.fpOk (ao _) (I1.hok.fresh (ao _))
theorem U7 {l:Expr}{tl:TE}(hl:PE X l tl):PI X tg l (Uy X.K tl):=by
 intro pins s σ H R I h
 refine thn (hl pins s σ H _ I h) λv s1 ⟨x,H1,I1,r1,q1⟩=>?_
 obtain ⟨a,e,⟨xs,hq⟩,q⟩:=q1
 subst e
 cases r1
 obtain ⟨its,rv,p,hz⟩:=I1.tuple hq
 refine mG (show s1.heap.IsTuple a its.toArray from p) ?_
 refine ⟨s1.heap.objs.size,[s1.heap.objs.size],_,_,H1,rfl,I1.kept (t':=s1.toks) λb o e=>ah _ e,JV a _,⟨_,az _ rfl,rfl,rfl⟩,λb hb=>?_,q⟩
 have e:b=s1.heap.objs.size:=by simpa using hb
 subst e
 exact I1.fpOk (ao _) (I1.hok.fresh (ao _))
theorem gY {pins:List (Addr×Obj)}{σ:St}{H:Hp}{s:Shared}{R:It->Hp->Prop}{E:ag->Shared->Prop}{lo hi:Int}{t u v:Tok}{tk:Nat}(I:Inv X pins σ H s) (h1 : -(2 ^ 62)<=lo) (h2:lo<2 ^ 62) (h3 : -(2 ^ 62)<=hi) (h4:hi<2 ^ 62)
  (q:R (Itr lo (hi-lo).toNat) H):ay (aC X.prog X.w) X.A (lV (.ref s.heap.objs.size)) (PIE X pins σ tg R) E { s with heap:=s.heap.push { cls:=.type "range",data:=.fields #[.int lo t,.int hi u,.int 1 v] },toks:=tk }:=by
 refine mH (oi ..) (small_one h1 h2 h3 h4) ?_
 have I1:Inv X pins σ H { s with heap:=s.heap.push { cls:=.type "range",data:=.fields #[.int lo t,.int hi u,.int 1 v] },toks:=tk }:=I.kept λb o e=>ah _ e
 refine ⟨(s.heap.push { cls:=.type "range",data:=.fields #[.int lo t,.int hi u,.int 1 v] }).objs.size,[(s.heap.push { cls:=.type "range",data:=.fields #[.int lo t,.int hi u,.int 1 v] }).objs.size],_,_,H,rfl,
  I1.kept (t':=tk) λb o e=>ah _ e,uz _ lo (hi-lo).toNat,?_,λb hb=>?_,q⟩
 ·have e1:lo+((0:Nat):Int)*1=lo:=by simp
  have e2:(((hi-lo).toNat:Nat):Int)-((0:Nat):Int)=iT lo hi 1:=by rw [pL];split <;> omega
  show oh _ _ (lo+((0:Nat):Int)*1) ((((hi-lo).toNat:Nat):Int)-((0:Nat):Int)) 1
  rw [e1,e2]
  exact az _ rfl
 ·have e:b=(s.heap.push { cls:=.type "range",data:=.fields #[.int lo t,.int hi u,.int 1 v] }).objs.size:=by simpa using hb
  subst e
  exact I1.fpOk (ao _) (I1.hok.fresh (ao _))
def UN (ta:TA):TI:=λσ H R=>ta σ H λvs H1=>∃j:Int,vs=[.int j] /\ -(2 ^ 62)<=j/\j<2 ^ 62/\R (Itr 0 j.toNat) H1
def UC (ta:TA):TI:=λσ H R=>ta σ H λvs H1=>∃i j:Int,vs=[.int i,.int j]/\(-(2 ^ 62)<=i/\i<2 ^ 62 /\ -(2 ^ 62)<=j/\j<2 ^ 62)/\R (Itr i (j-i).toNat) H1
theorem qd {a:Expr}{ta:TA}{p pos:Pos}(hg:Gl X "range") (hm:X.mg "range" = none) (ha:PA X [a] ta) (hs:aH [a] X.env=[(false,eval a X.env)]:=by rfl):PI X tg (.Call (.Name "range" p) [a] [] pos) (UN ta):=by
 intro pins s σ H R I h
 refine rJ (zI I hg hm oV (bU (thn (ha pos pins s σ H _ I h) λus s1 ⟨vs,H1,I1,r1,q1⟩=>?_) hs rfl))
 obtain ⟨j,e,q1,q2,q⟩:=q1
 subst e
 cases r1 with
 | cons r rr =>
  cases rr
  obtain ⟨t,rfl⟩:=r
  exact call_range_1 (gY I1 ∅ ∅ q1 q2 (by simpa using q))
theorem XU {a b:Expr}{ta:TA}{p pos:Pos}(hg:Gl X "range") (hm:X.mg "range" = none) (ha:PA X [a,b] ta) (hs:aH [a,b] X.env=[(false,eval a X.env),(false,eval b X.env)]:=by rfl) (hs2:aH [b] X.env=[(false,eval b X.env)]:=by rfl) :
  PI X tg (.Call (.Name "range" p) [a,b] [] pos) (UC ta):=by
 intro pins s σ H R I h
 refine rJ (zI I hg hm oV (bU (thn (ha pos pins s σ H _ I h) λus s1 ⟨vs,H1,I1,r1,q1⟩=>?_) (by rw [hs,hs2]) (by rw [hs2];rfl)))
 obtain ⟨i,j,e,⟨q1,q2,q3,q4⟩,q⟩:=q1
 subst e
 cases r1 with
 | cons r rr =>
  cases rr with
  | cons r' rr =>
   cases rr
   obtain ⟨t,rfl⟩:=r
   obtain ⟨t',rfl⟩:=r'
   exact call_range_2 (gY I1 q1 q2 q3 q4 q)
def tFor (wi:TI) (g:TG) (tb:TS):TS:=λD σ H=>wi σ H λJ H1=>∃W:Nat->Nat->St->Hp->Prop,(∃m,W 0 m σ H1)/\∀i m σ H,W i m σ H ->
 (J.stop i H/\D.nx σ H)\/(J.go i H/\∃N:St->Hp->Prop,(∀σ' H',N σ' H'->∃m',m'<m/\W (i+1) m' σ' H')/\∀x H',J.yld i H x H'->g x σ H' λσ2 H2=>tb { D with nx:=N,ct:=N,bk:=D.nx } σ2 H2)
def xP (fp:List Addr) (h:Heap):List (Addr×Obj):=fp.filterMap λb=>(h.get? b).map λo=>(b,o)
theorem qx {fp:List Addr}{h:Heap}{b:Addr}{o:Obj}(hb:b∈fp) (e:h.get? b=some o):(b,o)∈xP fp h:=List.mem_filterMap.mpr ⟨b,hb,by rw [e];rfl⟩
theorem XR {fp:List Addr}{h:Heap}{p:Addr×Obj}(hp:p∈xP fp h):p.1∈fp/\h.get? p.1=some p.2:=by
 obtain ⟨b,hb,e⟩:=List.mem_filterMap.mp hp
 cases q:h.get? b with
 | none=>rw [q] at e;cases e
 | some o =>
  rw [q] at e
  have e':(b,o)=p:=aQ e
  subst e'
  exact ⟨hb,q⟩
theorem Inv.pinned {pins:List (Addr×Obj)}{σ:St}{H:Hp}{s:Shared}{fp:List Addr}(I:Inv X pins σ H s) (hf:∀b∈fp,vE X pins H b) (ho:∀b∈fp,∃o,s.heap.get? b=some o/\∀v,o.data≠.cell v):Inv X (pins++xP fp s.heap) σ H s :=
 I.pins_of λp hp=>(List.mem_append.mp hp).elim (λz=>I.pin p (aE _ z)) λz=>by
  obtain ⟨hb,e⟩:=XR z
  obtain ⟨f0,f1,f2,_⟩:=hf p.1 hb
  obtain ⟨o,e',d⟩:=ho p.1 hb
  rw [e] at e';cases e'
  exact ⟨e,f0,f1,f2,d⟩
theorem Inv.unpinned {pins pl:List (Addr×Obj)}{σ:St}{H:Hp}{s:Shared}(I:Inv X (pins++pl) σ H s):Inv X pins σ H s:=I.pins_of λp hp=>I.pin p (aE _ (fS _ hp))
theorem xF {iter:Expr}{body:List Stmt}{wi:TI}{g:TG}{tb:TS}{pos:Pos}(hp:PassesOwn (aC X.prog X.w) X.A X.env X.xe) (hc:X.calm=true) (hi:PI X tg iter wi) (hg:PG X tg g) (hb:PSs X body tb)
  (hs:∀x,cu iter X.env x=pure x:=by intro _;rfl):PS X (.For tg iter body [] pos) (tFor wi g tb):=by
 intro pins s σ H D I h
 refine wpAny_For (thn (hi pins s σ H _ I h) λv s1 h1=>thn h1 λitv s2 h2=>?_) hs
 obtain ⟨it,fp,tn,J,H2,e,I2,T,st2,f2,W,⟨m0,w0⟩,turn⟩:=h2
 subst e
 have stat:∀{H':Hp},(∀b∈fp,H' b=none)->∀b∈fp,vE X pins H' b:=λhn b hb=>⟨hn b hb,(f2 b hb).2⟩
 refine codeAny_forLoop_any (λn s'=>∃i σ' H',Inv X pins σ' H' s'/\tn i s'.heap/\(∀b∈fp,H' b=none)/\W i n σ' H') ?_ m0 ⟨0,σ,H2,I2,st2,λb hb=>(f2 b hb).1,w0⟩
 rintro n s3 ⟨i,σ3,H3,I3,st3,fr3,w3⟩
 rcases turn i n σ3 H3 w3 with ⟨stop,qn⟩ | ⟨go,N,hN,step⟩
 ·refine df hp (thn (T.done X rfl rfl rfl hc i pins s3 σ3 H3 X.xe I3 (stat fr3) st3 stop) λr s4 ⟨hr,I4⟩=>?_)
  subst hr
  exact fY ⟨σ3,H3,I4,qn⟩
 ·refine df hp (thn (T.item X rfl rfl rfl hc i pins s3 σ3 H3 X.xe I3 (stat fr3) st3 go) λr s4 ⟨u,hr,h4⟩=>?_)
  subst hr
  refine df hp (thn h4 λ_ s5 ⟨x,H5,I5,r5,y5,st5,fr5⟩=>?_)
  have I5':=I5.pinned (stat fr5) (T.obj _ _ st5)
  refine df hp (thn (hg _ s5 σ3 H5 x u _ I5' r5 (step x H5 y5)) λ_ s6 ⟨σ6,H6,I6,q6⟩=>?_)
  refine df hp (thn (hb _ s6 σ6 H6 _ I6 q6) λf s7 q7=>?_)
  have again:∀{σ7:St} {H7:Hp},Inv X (pins++xP fp s5.heap) σ7 H7 s7->N σ7 H7->∃m,m<n/\∃i σ' H',Inv X pins σ' H' s7/\tn i s7.heap/\(∀b∈fp,H' b=none)/\W i m σ' H':=λ{σ7 H7} I7 n7=>by
   obtain ⟨m',hm,w7⟩:=hN σ7 H7 n7
   refine ⟨m',hm,i+1,σ7,H7,I7.unpinned,T.keep _ _ _ st5 λb hb o e=>(I7.pin (b,o) (aE _ (aE _ (qx hb e)))).1,λb hb=>?_,w7⟩
   obtain ⟨o,e,d⟩:=T.obj _ _ st5 b hb
   exact (I7.pin (b,o) (aE _ (aE _ (qx hb e)))).2.1
  cases f with
  | next=>obtain ⟨σ7,H7,I7,n7⟩:=q7;exact again I7 n7
  | cont=>obtain ⟨σ7,H7,I7,n7⟩:=q7;exact again I7 n7
  | brk=>obtain ⟨σ7,H7,I7,q7⟩:=q7;exact ⟨σ7,H7,I7.unpinned,q7⟩
  | ret v=>obtain ⟨x7,σ7,H7,I7,r7,q7⟩:=q7;exact ⟨x7,σ7,H7,I7.unpinned,r7,q7⟩
end
theorem gQ {K:aj}{a:Addr}{xs:List V}{g:TG}{tb:TS}{D:Ends}{σ:St}{H:Hp}(Pv:Nat->St->Hp->Prop) (h0:Pv 0 σ H) (hl:∀i σ H,i<=xs.length->Pv i σ H->SqL K H a xs)
  (hs:∀i x σ H,xs[i]? = some x->Pv i σ H->g x σ H λσ2 H2=>tb { D with nx:=Pv (i+1),ct:=Pv (i+1),bk:=D.nx } σ2 H2) (hd:∀σ H,Pv xs.length σ H->D.nx σ H) :
  ∃W:Nat->Nat->St->Hp->Prop,(∃m,W 0 m σ H)/\∀i m σ H,W i m σ H ->
   ((Itl K a).stop i H/\D.nx σ H)\/((Itl K a).go i H/\∃N:St->Hp->Prop,(∀σ' H',N σ' H'->∃m',m'<m/\W (i+1) m' σ' H')/\∀x H',(Itl K a).yld i H x H'->g x σ H' λσ2 H2=>tb { D with nx:=N,ct:=N,bk:=D.nx } σ2 H2):=by
 refine ⟨λi m σ H=>m=xs.length-i/\i<=xs.length/\Pv i σ H,⟨xs.length,by simp,aJ _,h0⟩,?_⟩
 rintro i m σ H ⟨rfl,hi,p⟩
 have q:=hl i σ H hi p
 by_cases hlt:i<xs.length
 ·refine .inr ⟨⟨xs,xs[i],q,by simp [hlt]⟩,Pv (i+1),λσ' H' p'=>⟨xs.length-(i+1),∅,rfl,hlt,p'⟩,λx H' y=>?_⟩
  obtain ⟨e,y⟩:=y
  subst e
  exact hs i x σ _ (y xs q) p
 ·have e:i=xs.length:=∅
  subst e
  exact .inl ⟨⟨xs,q,ao _⟩,hd σ H p⟩
theorem YZ {K:aj}{a:Addr}{xs:List V}{g:TG}{tb:TS}{D:Ends}{σ:St}{H:Hp}(Pv:Nat->St->Hp->Prop) (h0:Pv 0 σ H) (hl:∀i σ H,i<=xs.length->Pv i σ H->SqT K H a xs)
  (hs:∀i x σ H,xs[i]? = some x->Pv i σ H->g x σ H λσ2 H2=>tb { D with nx:=Pv (i+1),ct:=Pv (i+1),bk:=D.nx } σ2 H2) (hd:∀σ H,Pv xs.length σ H->D.nx σ H) :
  ∃W:Nat->Nat->St->Hp->Prop,(∃m,W 0 m σ H)/\∀i m σ H,W i m σ H ->
   ((Itt K a).stop i H/\D.nx σ H)\/((Itt K a).go i H/\∃N:St->Hp->Prop,(∀σ' H',N σ' H'->∃m',m'<m/\W (i+1) m' σ' H')/\∀x H',(Itt K a).yld i H x H'->g x σ H' λσ2 H2=>tb { D with nx:=N,ct:=N,bk:=D.nx } σ2 H2):=by
 refine ⟨λi m σ H=>m=xs.length-i/\i<=xs.length/\Pv i σ H,⟨xs.length,by simp,aJ _,h0⟩,?_⟩
 rintro i m σ H ⟨rfl,hi,p⟩
 have q:=hl i σ H hi p
 by_cases hlt:i<xs.length
 ·refine .inr ⟨⟨xs,xs[i],q,by simp [hlt]⟩,Pv (i+1),λσ' H' p'=>⟨xs.length-(i+1),∅,rfl,hlt,p'⟩,λx H' y=>?_⟩
  obtain ⟨e,y⟩:=y
  subst e
  exact hs i x σ _ (y xs q) p
 ·have e:i=xs.length:=∅
  subst e
  exact .inl ⟨⟨xs,q,ao _⟩,hd σ H p⟩
theorem xK {lo:Int}{n:Nat}{g:TG}{tb:TS}{D:Ends}{σ:St}{H:Hp}(Pv:Nat->St->Hp->Prop) (h0:Pv 0 σ H)
  (hs:∀i σ H,i<n->Pv i σ H->g (.int (lo+i)) σ H λσ2 H2=>tb { D with nx:=Pv (i+1),ct:=Pv (i+1),bk:=D.nx } σ2 H2) (hd:∀σ H,Pv n σ H->D.nx σ H) :
  ∃W:Nat->Nat->St->Hp->Prop,(∃m,W 0 m σ H)/\∀i m σ H,W i m σ H ->
   ((Itr lo n).stop i H/\D.nx σ H)\/((Itr lo n).go i H/\∃N:St->Hp->Prop,(∀σ' H',N σ' H'->∃m',m'<m/\W (i+1) m' σ' H')/\∀x H',(Itr lo n).yld i H x H'->g x σ H' λσ2 H2=>tb { D with nx:=N,ct:=N,bk:=D.nx } σ2 H2):=by
 refine ⟨λi m σ H=>m=n-i/\i<=n/\Pv i σ H,⟨n,by simp,aJ _,h0⟩,?_⟩
 rintro i m σ H ⟨rfl,hi,p⟩
 by_cases hlt:i<n
 ·refine .inr ⟨hlt,Pv (i+1),λσ' H' p'=>⟨n-(i+1),∅,rfl,hlt,p'⟩,λx H' y=>?_⟩
  obtain ⟨e,y⟩:=y
  subst e y
  exact hs i σ _ hlt p
 ·have e:i=n:=∅
  subst e
  exact .inl ⟨ao _,hd σ H p⟩
theorem Jn {c:TT}{tb:TS}{D:Ends}{σ:St}{H:Hp}(Pv:St->Hp->Prop) (μ:St->Hp->Nat) (h0:Pv σ H)
  (hs:∀σ H,Pv σ H->c σ H λb H1=>if b=true then tb { D with nx:=λσ' H'=>Pv σ' H'/\μ σ' H'<μ σ H,ct:=λσ' H'=>Pv σ' H'/\μ σ' H'<μ σ H,bk:=D.nx } σ H1 else D.nx σ H1)
  (mono:∀σ H Q Q',(∀b H1,Q b H1->Q' b H1)->c σ H Q->c σ H Q'):Zp c tb D σ H:=by
 refine ⟨λm σ H=>m=μ σ H/\Pv σ H,⟨_,rfl,h0⟩,?_⟩
 rintro m σ H ⟨rfl,p⟩
 refine mono σ H _ _ (λb H1 q=>?_) (hs σ H p)
 cases b with
 | true=>exact ⟨_,λσ' H' ⟨p',l⟩=>⟨_,l,rfl,p'⟩,q⟩
 | false=>exact q
end L2
namespace L2
abbrev R2:=V->V->Hp->VK->Prop
def OpR (X:Cx) (f:ag->ag->Sem ag) (r:R2):Prop :=
 ∀(pins:List (Addr×Obj)) (s:Shared) (σ:St) (H:Hp) (x y:V) (v u:ag) (Q:VK),Inv X pins σ H s->jA x v->jA y u->r x y H Q ->
  ay (aC X.prog X.w) X.A (f v u) (EP X pins σ Q) X.xe s
def UnR (X:Cx) (f:ag->Sem ag) (r:V->Hp->VK->Prop):Prop :=
 ∀(pins:List (Addr×Obj)) (s:Shared) (σ:St) (H:Hp) (x:V) (v:ag) (Q:VK),Inv X pins σ H s->jA x v->r x H Q ->
  ay (aC X.prog X.w) X.A (f v) (EP X pins σ Q) X.xe s
def qu (X:Cx) (f:ag) (r:List V->Hp->VK->Prop):Prop :=
 ∀(pins:List (Addr×Obj)) (s:Shared) (σ:St) (H:Hp) (xs:List V) (us:List ag) (Q:VK),Inv X pins σ H s->jx xs us->r xs H Q ->
  ay (aC X.prog X.w) X.A (call f us) (EP X pins σ Q) X.xe s
def tOp (r:R2) (ta tb:TE):TE:=λσ H Q=>ta σ H λx H1=>tb σ H1 λy H2=>r x y H2 Q
def tUn (r:V->Hp->VK->Prop) (ta:TE):TE:=λσ H Q=>ta σ H λx H1=>r x H1 Q
def rI (C:Int->Int->Prop) (g:Int->Int->V):R2:=λx y H Q=>∃i j,x = .int i/\y = .int j/\C i j/\Q (g i j) H
def rI0 (g:Int->Int->V):R2:=λx y H Q=>∃i j,x = .int i/\y = .int j/\Q (g i j) H
def rU (g:Int->V):V->Hp->VK->Prop:=λx H Q=>∃i,x = .int i/\Q (g i) H
section
variable {X:Cx}{a b c:Expr}{ta tb tc:TE}{pos:Pos}
theorem VS (ha:PE X a ta) (hb:PE X b tb) {pins:List (Addr×Obj)}{s:Shared}{σ:St}{H:Hp}{R:V->V->Hp->Prop}(I:Inv X pins σ H s)
  (h:ta σ H λx H1=>tb σ H1 λy H2=>R x y H2) {Q:ag->Shared->Prop} {f:ag->ag->Sem ag}
  (hf:∀v u s2 x y H2,Inv X pins σ H2 s2->jA x v->jA y u->R x y H2->ay (aC X.prog X.w) X.A (f v u) Q X.xe s2) :
  ay (aC X.prog X.w) X.A (eval a X.env) (λv s₁=>ay (aC X.prog X.w) X.A (eval b X.env) (λu s₂=>ay (aC X.prog X.w) X.A (f v u) Q X.xe s₂) X.xe s₁) X.xe s:=by
 refine thn (ha pins s σ H _ I h) λv s1 ⟨x,H1,I1,r1,q1⟩=>?_
 refine thn (hb pins s1 σ H1 _ I1 q1) λu s2 ⟨y,H2,I2,r2,q2⟩=>?_
 exact hf v u s2 x y H2 I2 r1 r2 q2
theorem jo {op:Operator}{r:R2}(ho:OpR X (fT op) r) (ha:PE X a ta) (hb:PE X b tb):PE X (.BinOp a op b pos) (tOp r ta tb):=by
 intro pins s σ H Q I h
 exact wpAny_BinOp (VS ha hb I h λv u s2 x y H2 I2 rx ry q=>ho pins s2 σ H2 x y v u Q I2 rx ry q)
theorem vg {op:UnaryOp}{r:V->Hp->VK->Prop}(ho:UnR X (unaryOp op) r) (ha:PE X a ta):PE X (.UnaryOp op a pos) (tUn r ta):=by
 intro pins s σ H Q I h
 exact UnaryOp_ (thn (ha pins s σ H _ I h) λv s1 ⟨x,H1,I1,r1,q1⟩=>ho pins s1 σ H1 x v Q I1 r1 q1)
theorem opI {f:ag->ag->Sem ag}{C:Int->Int->Prop}{g:Int->Int->Int}
  (rule:∀(i j:Int) (t u:Tok) (s:Shared) (Q:ag->Shared->Prop) (E:ag->Shared->Prop),C i j->Q (.int (g i j) s.toks) { s with toks:=s.toks+1 }->ay (aC X.prog X.w) X.A (f (.int i t) (.int j u)) Q E s) :
  OpR X f (rI C λi j=>.int (g i j)):=by
 intro pins s σ H x y v u Q I rx ry h
 obtain ⟨i,j,rfl,rfl,hc,q⟩:=h
 obtain ⟨t,rfl⟩:=rx
 obtain ⟨t',rfl⟩:=ry
 exact rule i j t t' s _ _ hc ⟨.int (g i j),H,I.tok _,⟨_,rfl⟩,q⟩
theorem Ux {f:ag->ag->Sem ag}{g:Int->Int->Int}
  (rule:∀(i j:Int) (t u:Tok) (s:Shared) (Q:ag->Shared->Prop) (E:ag->Shared->Prop),Q (.int (g i j) s.toks) { s with toks:=s.toks+1 }->ay (aC X.prog X.w) X.A (f (.int i t) (.int j u)) Q E s) :
  OpR X f (rI0 λi j=>.int (g i j)):=by
 intro pins s σ H x y v u Q I rx ry h
 obtain ⟨i,j,rfl,rfl,q⟩:=h
 obtain ⟨t,rfl⟩:=rx
 obtain ⟨t',rfl⟩:=ry
 exact rule i j t t' s _ _ ⟨.int (g i j),H,I.tok _,⟨_,rfl⟩,q⟩
theorem Yj {f:ag->ag->Sem ag}{g:Int->Int->Bool}
  (rule:∀(i j:Int) (t u:Tok) (s:Shared) (Q:ag->Shared->Prop) (E:ag->Shared->Prop),Q (.bool (g i j)) s->ay (aC X.prog X.w) X.A (f (.int i t) (.int j u)) Q E s) :
  OpR X f (rI0 λi j=>.bl (g i j)):=by
 intro pins s σ H x y v u Q I rx ry h
 obtain ⟨i,j,rfl,rfl,q⟩:=h
 obtain ⟨t,rfl⟩:=rx
 obtain ⟨t',rfl⟩:=ry
 exact rule i j t t' s _ _ ⟨.bl (g i j),H,I,rfl,q⟩
def UO (i j:Int):Prop:=0<=j/\j<=1000000/\i.natAbs<2 ^ 64
def Zn (i j:Int):Prop:=(-(2 ^ 64)<i/\i<2 ^ 64)\/(-(2 ^ 64)<j/\j<2 ^ 64)
theorem Zn.ok {i j:Int}(h:Zn i j):IntMulOk i j:=by
 rcases h with ⟨h1,h2⟩ | ⟨h1,h2⟩
 ·exact .of_left (pM h1 h2)
 ·exact .of_right (pM h1 h2)
theorem jR:OpR X (fT .Add) (rI0 λi j=>.int (i+j)):=Ux λ_ _ _ _ _ _ _ q=>add_int q
theorem zH:OpR X (fT .Sub) (rI0 λi j=>.int (i-j)):=Ux λ_ _ _ _ _ _ _ q=>sub_int q
theorem vO:OpR X (fT .Mult) (rI Zn λi j=>.int (i*j)):=opI λ_ _ _ _ _ _ _ hc q=>mul_int q hc.ok
theorem xp:OpR X (fT .Mod) (rI (λ_ j=>0<j) λi j=>.int (i % j)):=opI λi j _ _ _ _ _ hc q=>by
 have h1:(0:Int)<j:=hc
 exact mod_int' ∅ (by rw [Int.fmod_eq_emod_of_nonneg i ∅];exact q)
theorem kS:OpR X (fT .Pow) (rI UO λi j=>.int (i ^ j.toNat)):=opI λ_ _ _ _ _ _ _ hc q=>pow_int_small hc.1 hc.2.1 hc.2.2 q
theorem unI {f:ag->Sem ag}{g:Int->Int}
  (rule:∀(i:Int) (t:Tok) (s:Shared) (Q:ag->Shared->Prop) (E:ag->Shared->Prop),Q (.int (g i) s.toks) { s with toks:=s.toks+1 }->ay (aC X.prog X.w) X.A (f (.int i t)) Q E s) :
  UnR X f (rU λi=>.int (g i)):=by
 intro pins s σ H x v Q I rx h
 obtain ⟨i,rfl,q⟩:=h
 obtain ⟨t,rfl⟩:=rx
 exact rule i t s _ _ ⟨.int (g i),H,I.tok _,⟨_,rfl⟩,q⟩
theorem zF:UnR X (unaryOp .USub) (rU λi=>.int (-i)):=unI λ_ _ _ _ _ q=>neg_int q
end
def UJ:V->V->Bool
 | .non,.non=>true | .non,.int _=>true | .int _,.non=>true | .non,.bl _=>true | .bl _,.non=>true | .non,.str _=>true | .str _,.non=>true
 | .int _,.int _=>true | .bl _,.bl _=>true | .str _,.str _=>true | .byt _,.byt _=>true
 | .int _,.str _=>true | .str _,.int _=>true | .bl _,.str _=>true | .str _,.bl _=>true
 | _,_=>false
def rEq:R2:=λx y H Q=>UJ x y=true/\Q (.bl (decide (x=y))) H
def rNe:R2:=λx y H Q=>UJ x y=true/\Q (.bl (!decide (x=y))) H
theorem QY {i j:Int}:decide (V.int i=V.int j)=(i == j):=by
 rw [dP]
 simp
theorem Zy {i j:Bool}:decide (V.bl i=V.bl j)=(i == j):=by
 rw [dP]
 simp
theorem QB {i j:Str}:decide (V.str i=V.str j)=(i == j):=by
 rw [dP]
 simp
theorem QD {i j:Array UInt8}:decide (V.byt i=V.byt j)=(i.toList == j.toList):=by
 rw [dP]
 cases i
 cases j
 simp
section
variable {X:Cx}{a b c:Expr}{ta tb tc:TE}{pos:Pos}
theorem jD {pins:List (Addr×Obj)}{σ:St}{H:Hp}{s:Shared}{Q:VK}{k k':Bool}(I:Inv X pins σ H s) (q:Q (.bl k) H) (e:k=k'):EP X pins σ Q (.bool k') s:=by
 subst e
 exact ⟨.bl k,H,I,rfl,q⟩
theorem QQ:OpR X (cc .Eq) rEq:=by
 intro pins s σ H x y v u Q I rx ry h
 obtain ⟨hs,q⟩:=h
 cases x with
 | non =>
  cases rx
  cases y with
  | non=>cases ry;exact PySem.EqNone.eq_none_none (jD I q (by simp))
  | bl j=>cases ry;exact PySem.EqNone.eq_none_bool (jD I q (by simp))
  | int j=>obtain ⟨t',rfl⟩:=ry;exact PySem.EqNone.eq_none_int (jD I q (by simp))
  | str j=>obtain ⟨t',rfl⟩:=ry;exact PySem.EqNone.eq_none_str (jD I q (by simp))
  | _=>exact absurd (show false=true from hs) aq
 | bl i =>
  cases rx
  cases y with
  | non=>cases ry;exact PySem.EqNone.eq_bool_none (jD I q (by simp))
  | bl j=>cases ry;exact eq_bool (jD I q Zy)
  | str j=>obtain ⟨t',rfl⟩:=ry;exact PySem.EqMixed.eq_bool_str (jD I q (by simp))
  | _=>exact absurd (show false=true from hs) aq
 | int i =>
  obtain ⟨t,rfl⟩:=rx
  cases y with
  | non=>cases ry;exact PySem.EqNone.eq_int_none (jD I q (by simp))
  | int j=>obtain ⟨t',rfl⟩:=ry;exact eq_int (jD I q QY)
  | str j=>obtain ⟨t',rfl⟩:=ry;exact PySem.EqMixed.eq_int_str (jD I q (by simp))
  | _=>exact absurd (show false=true from hs) aq
 | str i =>
  obtain ⟨t,rfl⟩:=rx
  cases y with
  | non=>cases ry;exact PySem.EqNone.eq_str_none (jD I q (by simp))
  | bl j=>cases ry;exact PySem.EqMixed.eq_str_bool (jD I q (by simp))
  | int j=>obtain ⟨t',rfl⟩:=ry;exact PySem.EqMixed.eq_str_int (jD I q (by simp))
  | str j=>obtain ⟨t',rfl⟩:=ry;exact eq_str (jD I q QB)
  | _=>exact absurd (show false=true from hs) aq
 | byt i =>
  obtain ⟨t,rfl⟩:=rx
  cases y with
  | byt j=>obtain ⟨t',rfl⟩:=ry;exact PySem.W.eq_bytes (jD I q QD)
  | _=>exact absurd (show false=true from hs) aq
 | _=>cases y <;> exact absurd (show false=true from hs) aq
theorem UD:OpR X (cc .NotEq) rNe:=by
 intro pins s σ H x y v u Q I rx ry h
 obtain ⟨hs,q⟩:=h
 cases x with
 | non =>
  cases rx
  cases y with
  | non=>cases ry;exact PySem.EqNone.ne_none_none (jD I q (by simp))
  | bl j=>cases ry;exact PySem.EqNone.ne_none_bool (jD I q (by simp))
  | int j=>obtain ⟨t',rfl⟩:=ry;exact PySem.EqNone.ne_none_int (jD I q (by simp))
  | str j=>obtain ⟨t',rfl⟩:=ry;exact PySem.EqNone.ne_none_str (jD I q (by simp))
  | _=>exact absurd (show false=true from hs) aq
 | bl i =>
  cases rx
  cases y with
  | non=>cases ry;exact PySem.EqNone.ne_bool_none (jD I q (by simp))
  | bl j=>cases ry;exact ne_bool (jD I q (congrArg not Zy))
  | str j=>obtain ⟨t',rfl⟩:=ry;exact PySem.EqMixed.ne_bool_str (jD I q (by simp))
  | _=>exact absurd (show false=true from hs) aq
 | int i =>
  obtain ⟨t,rfl⟩:=rx
  cases y with
  | non=>cases ry;exact PySem.EqNone.ne_int_none (jD I q (by simp))
  | int j=>obtain ⟨t',rfl⟩:=ry;exact ne_int (jD I q (congrArg not QY))
  | str j=>obtain ⟨t',rfl⟩:=ry;exact PySem.EqMixed.ne_int_str (jD I q (by simp))
  | _=>exact absurd (show false=true from hs) aq
 | str i =>
  obtain ⟨t,rfl⟩:=rx
  cases y with
  | non=>cases ry;exact PySem.EqNone.ne_str_none (jD I q (by simp))
  | bl j=>cases ry;exact PySem.EqMixed.ne_str_bool (jD I q (by simp))
  | int j=>obtain ⟨t',rfl⟩:=ry;exact PySem.EqMixed.ne_str_int (jD I q (by simp))
  | str j=>obtain ⟨t',rfl⟩:=ry;exact ne_str (jD I q (congrArg not QB))
  | _=>exact absurd (show false=true from hs) aq
 | byt i =>
  obtain ⟨t,rfl⟩:=rx
  cases y with
  | byt j=>obtain ⟨t',rfl⟩:=ry;exact PySem.W.ne_bytes (jD I q (congrArg not QD))
  | _=>exact absurd (show false=true from hs) aq
 | _=>cases y <;> exact absurd (show false=true from hs) aq
theorem vx:OpR X (cc .Lt) (rI0 λi j=>.bl (decide (i<j))):=Yj λ_ _ _ _ _ _ _ q=>lt_int q
theorem qp:OpR X (cc .LtE) (rI0 λi j=>.bl (decide (i<=j))):=Yj λ_ _ _ _ _ _ _ q=>le_int q
theorem Zo:OpR X (cc .Gt) (rI0 λi j=>.bl (decide (j<i))):=Yj λ_ _ _ _ _ _ _ q=>gt_int q
theorem ZZ:OpR X (cc .GtE) (rI0 λi j=>.bl (decide (j<=i))):=Yj λ_ _ _ _ _ _ _ q=>ge_int q
theorem VM:OpR X (cc .Is) (λx y H Q=>y = .non/\Q (.bl (decide (x = .non))) H):=by
 intro pins s σ H x y v u Q I rx ry h
 obtain ⟨rfl,q⟩:=h
 cases ry
 refine is_none_gen (jD I q ?_)
 cases x <;> first
  | (cases rx;rfl)
  | (obtain ⟨t,rfl⟩:=rx;rfl)
theorem YY:OpR X (cc .IsNot) (λx y H Q=>y = .non/\Q (.bl (!decide (x = .non))) H):=by
 intro pins s σ H x y v u Q I rx ry h
 obtain ⟨rfl,q⟩:=h
 cases ry
 refine isnot_none_gen (jD I q ?_)
 cases x <;> first
  | (cases rx;rfl)
  | (obtain ⟨t,rfl⟩:=rx;rfl)
theorem qm (b:Expr) {op:oU}(h:op≠.In:=by decide) (h2:op≠.NotIn:=by decide):dU op b=false:=by
 have e1:(op == CmpOp.In)=false:=by cases op <;> first | rfl | exact absurd rfl h
 have e2:(op == CmpOp.NotIn)=false:=by cases op <;> first | rfl | exact absurd rfl h2
 cases b <;> simp [dU,e1,e2]
theorem gf {op:oU}{r:R2}(ho:OpR X (cc op) r) (ha:PE X a ta) (hb:PE X b tb) (hm:dU op b=false):PE X (.Compare a [op] [b] pos) (tOp r ta tb):=by
 intro pins s σ H Q I h
 exact wpAny_Compare1 (VS ha hb I h λv u s2 x y H2 I2 rx ry q=>ho pins s2 σ H2 x y v u Q I2 rx ry q) hm
def QP (t:TE):TT:=λσ H Q=>t σ H λx H'=>∃k,x = .bl k/\Q k H'
theorem jK {op:oU}{r:R2}(ho:OpR X (cc op) r) (ha:PE X a ta) (hb:PE X b tb) (hm:dU op b=false):PT X (.Compare a [op] [b] pos) (QP (tOp r ta tb)):=by
 intro pins s σ H Q I h
 refine lP (thn (ha pins s σ H _ I h) λv s1 ⟨x,H1,I1,r1,q1⟩=>thn (hb pins s1 σ H1 _ I1 q1) λu s2 ⟨y,H2,I2,r2,q2⟩ =>
  thn (ho pins s2 σ H2 x y v u _ I2 r1 r2 q2) λc s3 ⟨z,H3,I3,r3,k,e,q3⟩=>?_) hm
 subst e
 cases r3
 exact bT ⟨H3,I3,q3⟩
def ZR (r r':R2) (ta tb tc:TE):TE:=λσ H Q=>ta σ H λx H1=>tb σ H1 λy H2=>r x y H2 λz H3=>∃k,z = .bl k /\
 (if k=true then tc σ H3 λw' H4=>r' y w' H4 Q else Q (.bl false) H3)
theorem zw {op op':oU}{r r':R2}(ho:OpR X (cc op) r) (ho':OpR X (cc op') r') (ha:PE X a ta) (hb:PE X b tb) (hc:PE X c tc)
  (hm:lastMarks [op,op'] [b,c]=false:=by with_unfolding_all rfl):PE X (.Compare a [op,op'] [b,c] pos) (ZR r r' ta tb tc):=by
 intro pins s σ H Q I h
 refine Compare_chain (thn (ha pins s σ H _ I h) λv s1 ⟨x,H1,I1,r1,q1⟩=>chain_link (thn (hb pins s1 σ H1 _ I1 q1) λu s2 ⟨y,H2,I2,r2,q2⟩ =>
  thn (ho pins s2 σ H2 x y v u _ I2 r1 r2 q2) λd s3 ⟨z,H3,I3,r3,k,e,q3⟩=>?_)) hm
 subst e
 cases r3
 refine bT ?_
 cases k with
 | false=>exact ite_ff ⟨.bl false,H3,I3,rfl,q3⟩
 | true=>exact ite_tt (chain_last (thn (hc pins s3 σ H3 _ I3 q3) λw' s4 ⟨z',H4,I4,r4,q4⟩=>ho' pins s4 σ H4 y z' u w' Q I4 r2 r4 q4))
theorem xC {op op':oU}{r r':R2}(ho:OpR X (cc op) r) (ho':OpR X (cc op') r') (ha:PE X a ta) (hb:PE X b tb) (hc:PE X c tc)
  (hm:lastMarks [op,op'] [b,c]=false:=by with_unfolding_all rfl):PT X (.Compare a [op,op'] [b,c] pos) (QP (ZR r r' ta tb tc)):=by
 intro pins s σ H Q I h
 refine isTrue_chain (thn (ha pins s σ H _ I h) λv s1 ⟨x,H1,I1,r1,q1⟩=>test_link (thn (hb pins s1 σ H1 _ I1 q1) λu s2 ⟨y,H2,I2,r2,q2⟩ =>
  thn (ho pins s2 σ H2 x y v u _ I2 r1 r2 q2) λd s3 ⟨z,H3,I3,r3,k,e,q3⟩=>?_)) hm
 subst e
 cases r3
 refine bT ?_
 cases k with
 | false =>
  obtain ⟨k',e',q'⟩:=q3
  cases e'
  exact ite_ff ⟨H3,I3,q'⟩
 | true =>
  refine ite_tt (test_last (thn (hc pins s3 σ H3 _ I3 q3) λw' s4 ⟨z',H4,I4,r4,q4⟩=>thn (ho' pins s4 σ H4 y z' u w' _ I4 r2 r4 q4) λd' s5 ⟨z2,H5,I5,r5,k2,e2,q5⟩=>?_))
  subst e2
  cases r5
  exact bT ⟨H5,I5,q5⟩
theorem kF:(sizeLine:Nat)<2 ^ 63:=by rw [bw];decide
theorem xU {x:V}{us:List ag}(r:jx [x] us):∃u,us=[u]/\jA x u:=by
 cases r with
 | cons r1 r2=>cases r2;exact ⟨_,rfl,r1⟩
theorem ZG {x y:V}{us:List ag}(r:jx [x,y] us):∃u w',us=[u,w']/\jA x u/\jA y w':=by
 cases r with
 | cons r1 r2 =>
  cases r2 with
  | cons r3 r4=>cases r4;exact ⟨_,_,rfl,r1,r3⟩
theorem yj (hc:X.calm=true):qu X (.builtin "max") (λxs H Q=>∃i j,xs=[.int i,.int j]/\Q (.int (if j > i then j else i)) H):=by
 intro pins s σ H xs us Q I r h
 obtain ⟨i,j,rfl,q⟩:=h
 obtain ⟨u,w',rfl,⟨t,rfl⟩,⟨t',rfl⟩⟩:=ZG r
 refine max_two_ints (I.ok.hd hc) λh' tk k=>⟨_,H,I.kept k,?_,q⟩
 by_cases hj:j > i
 ·rw [if_pos hj,if_pos hj];exact ⟨_,rfl⟩
 ·rw [if_neg hj,if_neg hj];exact ⟨_,rfl⟩
theorem yi (hc:X.calm=true):qu X (.builtin "min") (λxs H Q=>∃i j,xs=[.int i,.int j]/\Q (.int (if j<i then j else i)) H):=by
 intro pins s σ H xs us Q I r h
 obtain ⟨i,j,rfl,q⟩:=h
 obtain ⟨u,w',rfl,⟨t,rfl⟩,⟨t',rfl⟩⟩:=ZG r
 refine min_two_ints (I.ok.hd hc) λh' tk k=>⟨_,H,I.kept k,?_,q⟩
 by_cases hj:j<i
 ·rw [if_pos hj,if_pos hj];exact ⟨_,rfl⟩
 ·rw [if_neg hj,if_neg hj];exact ⟨_,rfl⟩
end
end L2
namespace L2
structure ObjM (h:Heap) (x dx C:Addr) (mA:Str->Option ag):Prop where
 obj:h.get? x=some (cP C dx)
 ns:h.Ns1 dx mA
 ne:dx≠x
theorem Xd {h:Heap}{dx:Addr}{mA:Str->Option ag}(n:h.Ns1 dx mA):∃od,h.get? dx=some od/\∀name,ip name od=some (mA name):=by
 obtain ⟨o,es,ep,ho,hd,hk,_,hm⟩:=n
 refine ⟨o,ho,λname=>?_⟩
 have e:=hm name
 unfold nsFind findBy at e
 rw [<- Array.find?_toList] at e
 unfold ip
 rw [hd]
 dsimp only
 split
 ·rename_i y q
  rw [q] at e
  exact congrArg some e
 ·rename_i q
  rw [q] at e
  have a:es.toList.any (·.refKey)=false:=by
   rw [List.any_eq_false]
   intro y hy
   obtain ⟨z,t,hkey⟩:=hk y (Array.mem_toList_iff.mp hy)
   simp [DictEntry.refKey,hkey]
  have a':¬es.toList.any (·.refKey)=true:=by rw [a];exact aq
  rw [if_neg a']
  exact congrArg some e
theorem ObjM.look {h:Heap}{x dx C:Addr}{mA:Str->Option ag}(I:ObjM h x dx C mA):∃od,PySem.W.InstAt h x (cP C dx) C (some od)/\∀name,ip name od=some (mA name) :=
 let ⟨od,ho,hl⟩:=Xd I.ns
 ⟨od,⟨I.obj,rfl,rfl,ho⟩,hl⟩
section
variable {prog:Program}{w:aV}{A:ba}{E:ag->Shared->Prop}{s:Shared}{K:aj}{x dx C f:Addr}{mA:Str->Option ag}{name:Str}{v:ag}
theorem YH {expr:Bool}{Q:ag->Shared->Prop}(X:K.In s.heap) (I:ObjM s.heap x dx C mA) (hg:eG K C name=true) (hh:ft K C=true)
  (ha:bB K (.ref C) name=some none) (hv:mA name=some v) (hv':nO v=true) (h:Q v { s with toks:=s.toks+1 }) :
  ay (aC prog w) A (getAttr (.ref x) name expr) Q E s:=by
 obtain ⟨od,J,hl⟩:=I.look
 exact PySem.W.get_value X J (i9 hg).1 (PySem.W.findObj_own hh ha rfl (by rw [hl,hv])) hv' h
theorem ZC {pl:Sem Bool}{Q:ag×List ag->Shared->Prop}(X:K.In s.heap) (I:ObjM s.heap x dx C mA) (hg:eG K C name=true)
  (hf:bB K (.ref C) name=some (some (.ref f))) (ht:mV K (.ref f)=true) (hv:mA name=none) (h:Q (.ref f,[.ref x]) s) :
  ay (aC prog w) A (iU (.ref x) name pl) Q E s:=by
 obtain ⟨od,J,hl⟩:=I.look
 exact PySem.W.method_fn X J (i9 hg).1 (i9 hg).2 hf (beq_iff_eq.mp ht) (by show (ip name od).map (·.isSome)=some false;rw [hl,hv];rfl) h
theorem YF {ns:List Str}{Q:Unit->Shared->Prop}(X:K.In s.heap) (I:ObjM s.heap x dx C mA)
  (hs:bB K (.ref C) "__setattr__" = some (some (.builtin "object.__setattr__"))) (hp:iI K C=true) (ht:lI K C name=some none) (hh:ft K C=true)
  (hw:mT mA ns) (hsz:ns.length<=sizeLine)
  (h:∀h',ObjM h' x dx C (λy=>if y=name then some v else mA y)->dJ dx s.heap h'->Q () { s with heap:=h',toks:=s.toks+2 }) :
  ay (aC prog w) A (setAttr (.ref x) name v) Q E s:=by
 obtain ⟨od,J,hl⟩:=I.look
 refine PySem.W.set_plain X J hs (PySem.W.osa_open (s:={ s with toks:=s.toks+1 }) (r:=none) X J hp ht λb=>?_)
 obtain ⟨cd,hc,hd'⟩:=PySem.W.any_some hh
 have hx:s.heap.get? x=some ⟨.ref C,some dx,.plain,#[]⟩:=I.obj
 refine ae (wpAny_pure (ae (ae (wpAny_loadPart hx (ae (PySem.W.Looks.here (s:={ s with toks:=s.toks+1 }) (PySem.W.looks_clsIn X hc) ?_))))))
 rw [hd']
 refine wpAny_pure (a:=some dx) (ae (wpAny_pure (ae ?_)))
 refine wpAny_nsSet1 (s:={ s with toks:=s.toks+1 }) I.ns λh' hn2 hs2=>?_
 obtain ⟨oD,esD,epD,hoD,hdD,hcD⟩:=hn2.count (PySem.Within.cons name v hw)
 refine ae (wpAny_lookBehind hoD (by rw [hdD];exact pastItsLine_dict (aF hcD (by rw [b7];omega))) ?_)
 exact wpAny_pure (h _ ⟨(hs2.2 _ (c5 I.ne)).trans I.obj,hn2,I.ne⟩ hs2)
theorem Zk {R:lW->Shared->Prop}{vs:List ag}{kw:List (Str×ag)}(X:K.In s.heap) (hm:lJ K C=true)
  (hi:bB K (.ref C) "__init__" = some (some (.ref f))) (hf:PySem.W.typeIn K (.ref f)=some (.type "function"))
  (h:cI (aC prog w) (A.under (.builtin "type.__call__" ⟨.ref C::vs,kw⟩)) (.call (.ref f) ⟨.ref (s.heap.objs.size+1)::vs,kw⟩) (PySem.W.InitBack (s.heap.objs.size+1) R)
   { s with heap:=(s.heap.push c8).push (cP C s.heap.objs.size) }) :
  cI (aC prog w) A (.call (.ref C) ⟨vs,kw⟩) R s:=by
 obtain ⟨hh,g,d,t,os⟩:=s
 exact PySem.W.make_core (PySem.W.makes_of X hm) (PySem.W.looks_findIn X hi) (λself=>PySem.W.bind_fn X self hf) (.inl rfl) h
end
def jj (f:Str) (v:V):List (Str×V)->List (Str×V)
 | []=>[(f,v)]
 | (g,x)::r=>if g=f then (g,v)::r else (g,x)::jj f v r
theorem jr (f g:Str) (v:V):∀fs:List (Str×V),(jj f v fs).lookup g=if g=f then some v else fs.lookup g
 | []=>by
  show dG g [(f,v)]=_
  by_cases h:g=f
  ·have hb:(g == f)=true:=beq_iff_eq.mpr h
   simp only [dG,hb,if_pos h]
  ·have hb:(g == f)=false:=beq_eq_false_iff_ne.mpr h
   simp only [dG,hb,if_neg h]
 | (k,x)::r=>by
  have ih:=jr f g v r
  rw [show jj f v ((k,x)::r)=(if k=f then (k,v)::r else (k,x)::jj f v r) from rfl]
  by_cases hk:k=f
  ·rw [if_pos hk]
   by_cases h:g=k
   ·have hb:(g == k)=true:=beq_iff_eq.mpr h
    simp only [dG,hb,if_pos (h.trans hk)]
   ·have hb:(g == k)=false:=beq_eq_false_iff_ne.mpr h
    simp only [dG,hb,if_neg (λe:g=f=>h (e.trans hk.symm))]
  ·rw [if_neg hk]
   by_cases h:g=k
   ·have hb:(g == k)=true:=beq_iff_eq.mpr h
    simp only [dG,hb,if_neg (λe:g=f=>hk (h.symm.trans e))]
   ·have hb:(g == k)=false:=beq_eq_false_iff_ne.mpr h
    simp only [dG,hb]
    exact ih
theorem vL (f:Str) (v:V):∀fs:List (Str×V),f∈(jj f v fs).map (·.1)/\∀g,g∈fs.map (·.1)->g∈(jj f v fs).map (·.1)
 | []=>⟨by simp [jj],λg h=>by simp at h⟩
 | (k,x)::r=>by
  obtain ⟨i1,i2⟩:=vL f v r
  rw [show jj f v ((k,x)::r)=(if k=f then (k,v)::r else (k,x)::jj f v r) from rfl]
  by_cases hk:k=f
  ·rw [if_pos hk]
   subst hk
   exact ⟨by simp,λg h=>by simpa using h⟩
  ·rw [if_neg hk]
   refine ⟨?_,λg h=>?_⟩
   ·rw [aN]
    exact aD _ i1
   ·rw [aN] at h ⊢
    rcases List.mem_cons.mp h with e | e
    ·exact List.mem_cons.mpr (.inl e)
    ·exact aD _ (i2 g e)
theorem jH (f:Str) (v:V):∀fs:List (Str×V),(jj f v fs).length<=fs.length+1
 | []=>by simp [jj]
 | (k,x)::r=>by
  have ih:=jH f v r
  rw [show jj f v ((k,x)::r)=(if k=f then (k,v)::r else (k,x)::jj f v r) from rfl]
  by_cases hk:k=f
  ·rw [if_pos hk,b7,b7];omega
  ·rw [if_neg hk,b7,b7];omega
theorem zT.some_of {v:V}{o:Option ag}(r:zT (some v) o):∃u,o=some u/\jA v u:=by
 cases o with
 | none=>exact (show False from r).elim
 | some u=>exact ⟨u,rfl,r⟩
theorem zT.none_of {o:Option ag}(r:zT none o):o=none:=by
 cases o with
 | none=>rfl
 | some u=>exact (show False from r).elim
theorem XC {v:V}{u:ag}(r:jA v u):nO u=true:=by
 cases v with
 | non=>cases (show u=aT from r);rfl
 | bl b=>cases (show u=mF b from r);rfl
 | int i=>obtain ⟨t,e⟩:=(show ∃t,u=eE i t from r);cases e;rfl
 | str x=>obtain ⟨t,e⟩:=(show ∃t,u=nN x t from r);cases e;rfl
 | byt b=>obtain ⟨t,e⟩:=(show ∃t,u=Value.bytes b t from r);cases e;rfl
 | flt b=>obtain ⟨t,e⟩:=(show ∃t,u=Value.float b t from r);cases e;rfl
 | ref a=>cases (show u=b0 a from r);rfl
 | ty n=>cases (show u=eV n from r);rfl
section
variable {P:Program}{w:aV}{H H':Hp}{h h':Heap}{a C dx:Addr}{fs fs':List (Str×V)}
theorem gg (hok:HOk P w H h) (e:H a=some (.ins C dx fs)):∃mA,ObjM h a dx C mA/\(∀f,zT (fs.lookup f) (mA f))/\mT mA (fs.map (·.1))/\fs.length<=1000/\H dx=some (.own a):=by
 obtain ⟨d,z,ne,ob,mA,n,r,q⟩:=(show qk P w H h a (.ins C dx fs) from hok a _ e)
 exact ⟨mA,⟨ob,n,ne⟩,r,q,z,d⟩
end
structure Cls (K:aj) (C:Addr):Prop where
 pg:eG K C Str.empty=true
 hd:ft K C=true
 po:iI K C=true
 sa:bB K (.ref C) "__setattr__" = some (some (.builtin "object.__setattr__"))
theorem Cls.get {K:aj}{C:Addr}(c:Cls K C) (f:Str):eG K C f=true:=c.pg
def xM (K:aj) (C:Addr) (f:Str):Prop:=bB K (.ref C) f=some none
theorem xM.taker {K:aj}{C:Addr}{f:Str}(n:xM K C f):lI K C f=some none:=by
 unfold lI
 rw [show bB K (.ref C) f=some none from n]
 rfl
structure Meth (K:aj) (C:Addr) (m:Str) (f:Addr):Prop where
 at_:bB K (.ref C) m=some (some (.ref f))
 fn:mV K (.ref f)=true
 kp:bJ K (.ref f)=true
section
variable {X:Cx}{pins:List (Addr×Obj)}{σ:St}{H:Hp}{s:Shared}{a C dx:Addr}{fs:List (Str×V)}{f:Str}{v:V}{A:ba}{E:ag->Shared->Prop}
theorem Qm {b:Bool}{Q:ag->Shared->Prop}(I:Inv X pins σ H s) (e:H a=some (.ins C dx fs)) (c:Cls X.K C) (n:xM X.K C f) (l:fs.lookup f=some v)
  (h:∀u s',Inv X pins σ H s'->jA v u->Q u s'):ay (aC X.prog X.w) A (getAttr (.ref a) f b) Q E s:=by
 obtain ⟨mA,O,r,_,_,_⟩:=gg I.hok e
 obtain ⟨u,hu,ru⟩:=zT.some_of (v:=v) (o:=mA f) (by rw [<- l];exact r f)
 exact YH I.kIn O (c.get f) c.hd n hu (XC ru) (h u _ (I.tok _) ru)
theorem yF {m:Str}{g:Addr}{pl:Sem Bool}{Q:ag×List ag->Shared->Prop}(I:Inv X pins σ H s) (e:H a=some (.ins C dx fs)) (c:Cls X.K C) (k:Meth X.K C m g) (l:fs.lookup m=none)
  (h:Q (.ref g,[.ref a]) s):ay (aC X.prog X.w) A (iU (.ref a) m pl) Q E s:=by
 obtain ⟨mA,O,r,_,_,_⟩:=gg I.hok e
 have hn:mA m=none:=zT.none_of (by rw [<- l];exact r m)
 exact ZC I.kIn O (c.get m) k.at_ k.fn hn h
theorem Qk {y:V}{u:ag}{Q:Unit->Shared->Prop}(I:Inv X pins σ H s) (e:H a=some (.ins C dx fs)) (c:Cls X.K C) (n:xM X.K C f) (hl:fs.length<1000) (ry:jA y u)
  (h:∀s',Inv X pins σ (upd H a (.ins C dx (jj f y fs))) s'->Q () s'):ay (aC X.prog X.w) A (setAttr (.ref a) f u) Q E s:=by
 obtain ⟨mA,O,r,wi,_,ho⟩:=gg I.hok e
 have hz:(fs.map (·.1)).length<=sizeLine:=by rw [af,bw];omega
 refine YF I.kIn O c.sa c.po n.taker c.hd wi hz λh' O' sb=>h _ ?_
 have hd:∃o,h'.get? dx=some o:=let ⟨o,_,_,e',_⟩:=O'.ns;⟨o,e'⟩
 refine I.write (x:=a) (e:=dx) (by rw [e];exact eX) (.inr ho) (λb q hb z=>(sb.2 b hb).trans z) hd ?_
 refine ⟨by rw [j5 O.ne];exact ho,?_,O.ne,O'.obj,_,O'.ns,λg=>?_,λg hg=>?_⟩
 ·have:=jH f y fs;omega
 ·show zT ((jj f y fs).lookup g) (if g=f then some u else mA g)
  rw [jr]
  by_cases q:g=f
  ·rw [if_pos q,if_pos q];exact ry
  ·rw [if_neg q,if_neg q];exact r g
 ·by_cases q:g=f
  ·rw [q];exact (vL f y fs).1
  ·refine (vL f y fs).2 g (wi g λz=>hg ?_)
   show (if g=f then some u else mA g)=none
   rw [if_neg q];exact z
theorem Inv.made (I:Inv X pins σ H s):Inv X pins σ (upd (upd H s.heap.objs.size (.own (s.heap.objs.size+1))) (s.heap.objs.size+1) (.ins C s.heap.objs.size []))
  { s with heap:=(s.heap.push c8).push (cP C s.heap.objs.size) }:=by
 have e1:(s.heap.push c8).get? s.heap.objs.size=some c8:=az s.heap rfl
 have e2:((s.heap.push c8).push (cP C s.heap.objs.size)).get? (s.heap.objs.size+1)=some (cP C s.heap.objs.size):=by
  have:=az (s.heap.push c8) (o:=cP C s.heap.objs.size) rfl
  rwa [bK] at this
 have e3:(s.heap.push c8).Ns s.heap.objs.size (λ_=>none):=⟨c8,#[],_,e1,rfl,(λe he=>absurd he (by simp)),λ_=>rfl⟩
 have I1:=I.laid (a:=s.heap.objs.size) (o:=.own (s.heap.objs.size+1)) (h':=s.heap.push c8) (t':=s.toks) (λb u q=>ah _ q) (ao _) ⟨_,e1⟩
 refine I1.laid (a:=s.heap.objs.size+1) (o:=.ins C s.heap.objs.size []) (t':=s.toks) (λb u q=>ah _ q) (lj (bK _ _)) ?_
 have ne:s.heap.objs.size≠s.heap.objs.size+1:=aA (dw _)
 refine ⟨by rw [j5 ne,j4],aJ _,ne,e2,λ_=>none,(Heap.Ns1.of_empty e3).at λo q=>ah _ q,λ_=>eX,λy hy=>absurd rfl hy⟩
theorem V1 {prog:Program}{w:aV}{env:Env}{e:Expr}{f:Str}{pos:Pos}{s:Shared}{Q:ag->Shared->Prop}(hb:eN e f env (eval e env)=eval e env)
  (h:ay (aC prog w) A (eval e env) (λo s₁=>ay (aC prog w) A (getAttr o f true) Q E s₁) E s):ay (aC prog w) A (eval (.Attribute e f pos) env) Q E s :=
 Attribute_any_ h (by rw [arm_eval_Attribute,hb])
end
def Us (K:aj) (ta:TE) (f:Str):TE:=λσ H Q=>ta σ H λx H1=>∃a C dx fs v,x = .ref a/\H1 a=some (.ins C dx fs)/\Cls K C/\xM K C f/\fs.lookup f=some v/\Q v H1
def Uf (K:aj) (ta tv:TE) (f:Str):TS:=λD σ H=>tv σ H λy H1=>ta σ H1 λx H2=>∃a C dx fs,x = .ref a/\H2 a=some (.ins C dx fs)/\Cls K C/\xM K C f/\fs.length<1000 /\
 D.nx σ (upd H2 a (.ins C dx (jj f y fs)))
section
variable {X:Cx}{o e value:Expr}{f:Str}{pos pos' tpos:Pos}{ta tv:TE}
theorem Vv (he:PE X e ta) (hb:eN e f X.env (eval e X.env)=eval e X.env):PE X (.Attribute e f pos) (Us X.K ta f):=by
 intro pins s σ H Q I h
 refine V1 hb (thn (he pins s σ H _ I h) λu s1 ⟨x,H1,I1,rx,a,C,dx,fs,v,ex,ea,c,n,l,q⟩=>?_)
 subst ex
 obtain rfl:u=b0 a:=rx
 exact Qm I1 ea c n l λu' s2 I2 ru=>⟨v,H1,I2,ru,q⟩
theorem Uc (ha:PE X o ta) (hv:PE X value tv) (hs:ij value (some (.Attribute o f pos')) pos.line X.env=pure false):PS X (.Assign [.Attribute o f pos'] value pos) (Uf X.K ta tv f):=by
 intro pins s σ H D I h
 refine plainObj_wpAny_Assign_Attribute (thn (hv pins s σ H _ I h) λu s1 ⟨y,H1,I1,ry,q⟩=>thn (ha pins s1 σ H1 _ I1 q) λov s2 ⟨x,H2,I2,rx,a,C,dx,fs,ex,ea,c,n,l,q2⟩=>?_) hs
 subst ex
 obtain rfl:ov=b0 a:=rx
 exact Qk I2 ea c n l ry λs3 I3=>⟨σ,_,I3,q2⟩
theorem Vg {pl:Sem Bool}{m:Str}{apos:Pos}{args:List Expr}{pins:List (Addr×Obj)}{s:Shared}{σ:St}{H:Hp}{Q:ag->Shared->Prop}{te:TE}(he:PE X e te) (I:Inv X pins σ H s)
  (h:te σ H λx H1=>∃a C dx fs g,x = .ref a/\H1 a=some (.ins C dx fs)/\Cls X.K C/\Meth X.K C m g/\fs.lookup m=none /\
   ∀s1,Inv X pins σ H1 s1->ay (aC X.prog X.w) X.A (mW pos (.ref g) [.ref a] (ck pos (aH args X.env)) (iq pos (ee [] X.env))) Q X.xe s1)
  (ht:eval (.Call (.Attribute e m apos) args [] pos) X.env=(do
   let ov <- eval e X.env
   eU apos.atName
   let (f,first) <- eF [ov] (iU ov m pl)
   mW pos f first (ck pos (aH args X.env)) (iq pos (ee [] X.env)))) :
  ay (aC X.prog X.w) X.A (eval (.Call (.Attribute e m apos) args [] pos) X.env) Q X.xe s:=by
 refine fL (pl:=pl) (thn (he pins s σ H _ I h) λu s1 ⟨x,H1,I1,rx,a,C,dx,fs,g,ex,ea,c,k,l,q⟩=>?_) ht
 subst ex
 obtain rfl:u=b0 a:=rx
 exact yF I1 ea c k l (q s1 I1)
end
section
variable {X:Cx}{pins:List (Addr×Obj)}{σ:St}{H:Hp}{s:Shared}{A:ba}{E:ag->Shared->Prop}{Q:ag->Shared->Prop}{c:ag}{b:Bool}
end
end L2
namespace L2
structure Room (k:Nat) (A:ba):Prop where
 hd:A.handled=none
 dp:A.depth+3*k+5<recursionLimit
 un:A.units+16*k+200<cLine
theorem Room.mono {j k:Nat}{A:ba}(r:Room k A) (h:j<=k):Room j A:=⟨r.hd,by have:=r.dp;omega,by have:=r.un;omega⟩
theorem Room.deeper {k:Nat}{A:ba}(r:Room (k+1) A) (env:Env):Room k (A.deeper env) :=
 ⟨r.hd,by have:=r.dp;show A.depth+1+3*k+5<_;omega,by have:=r.un;show A.units+3+16*k+200<_;omega⟩
theorem Room.in1 {k:Nat}{A:ba}(r:Room (k+1) A):Room k A.in1 :=
 ⟨r.hd,by have:=r.dp;show A.depth+3*k+5<_;omega,by have:=r.un;show A.units+1+16*k+200<_;omega⟩
theorem Qj {A:ba}{C:Addr}{us:List ag}{kw:List (Str×ag)}:(A.under (.builtin "type.__call__" ⟨.ref C::us,kw⟩)).depth=A.depth+1:=by
 first | rfl | simp [mX,Code.weight,Code.isCreation,Code.isGuard,Code.isCaller,Code.frames,mY,guardIds]
theorem JR {A:ba}{C:Addr}{us:List ag}{kw:List (Str×ag)}:(A.under (.builtin "type.__call__" ⟨.ref C::us,kw⟩)).units=A.units+1:=by
 first | rfl | simp [mX,Code.cUnits,Code.frames,mY]
theorem Room.make {k:Nat}{A:ba}(r:Room (k+1) A) (C:Addr) (us:List ag) (kw:List (Str×ag)):Room k (A.under (.builtin "type.__call__" ⟨.ref C::us,kw⟩)) :=
 ⟨r.hd,by have:=r.dp;rw [Qj];omega,by have:=r.un;rw [JR];omega⟩
theorem Room.depth {k:Nat}{A:ba}(r:Room k A):A.depth<recursionLimit:=by have:=r.dp;omega
theorem Room.units {k:Nat}{A:ba}(r:Room k A):A.units+64<cLine:=by have:=r.un;omega
def YG:TA:=λ_ H Q=>Q [] H
def Ug (ta:TE) (tr:TA):TA:=λσ H Q=>ta σ H λx H1=>tr σ H1 λxs H2=>Q (x::xs) H2
section
variable {X:Cx}{e:Expr}{es:List Expr}{te:TE}{t:TA}{pos:Pos}
theorem j2:PA X [] YG:=λ_ _ _ _ H Q I h=>mZ ⟨[],H,I,.nil,h⟩
theorem j0 (ha:PE X e te) (hr:PA X es t) (hs:aH (e::es) X.env=(false,eval e X.env)::aH es X.env:=by rfl):PA X (e::es) (Ug te t):=by
 intro pos pins s σ H Q I h
 rw [hs]
 show ay _ _ (spliced ((false,eval e X.env)::ck pos (aH es X.env))) _ _ s
 refine ir (thn (ha pins s σ H _ I h) λu s1 ⟨x,H1,I1,r1,q1⟩=>?_)
 exact thn (hr pos pins s1 σ H1 _ I1 q1) λus s2 ⟨xs,H2,I2,r2,q2⟩=>⟨x::xs,H2,I2,.cons r1 r2,q2⟩
end
abbrev Sp:=List V->Hp->VK->XK->Prop
abbrev CXT:=List Env->Hp->Shared->XK->ag->Shared->Prop
structure Env0 (P:Program) (w:aV) (K:aj) (mg:Str->Option ag) (base:Heap) (A:ba) (outer:List Env) (s:Shared) (H:Hp):Prop where
 frames:A.frames=some outer
 mod:Mod K mg base
 bs:∀b o,base.get? b=some o->s.heap.get? b=some o/\H b=none
 bsz:base.objs.size<=s.heap.objs.size
 funs:s.heap.FunFrames base outer
 frf:∀b∈frs outer,H b=none
 hok:HOk P w H s.heap
 bare:fO s.gens
def CE (outer:List Env) (P:Program) (w:aV) (H:Hp) (s:Shared) (Q:VK) (u:ag) (s':Shared):Prop :=
 ∃v H',s'.os=s.os/\fO s'.gens/\Un (frs outer) [] H H' s.heap s'.heap/\HOk P w H' s'.heap/\jA v u/\Q v H'
def CR (CX:CXT) (outer:List Env) (P:Program) (w:aV) (H:Hp) (s:Shared) (Q:VK) (E:XK) (r:lW) (s':Shared):Prop :=
 match r with
 | .ok (.ret u)=>CE outer P w H s Q u s'
 | .ok _=>False
 | .error e=>CX outer H s E e s'
structure FnOk (P:Program) (w:aV) (K:aj) (mg:Str->Option ag) (base:Heap) (CX:CXT) (k:Nat) (f:Addr) (fd:FuncData) (ps:List Str) (sp:Sp):Prop where
 len:∀vs H Q E,sp vs H Q E->vs.length=ps.length
 run:∀(A:ba) (outer:List Env) (s:Shared) (H:Hp) (args:Args) (us:List ag) (vs:List V) (Q:VK) (E:XK),Room k A->Env0 P w K mg base A outer s H->oI s fd args (ps.zip us)->jx vs us->sp vs H Q E ->
  cI (aC P w) A (.call (.ref f) args) (CR CX outer P w H s Q E) s
theorem Env0.make {P:Program}{w:aV}{K:aj}{mg:Str->Option ag}{base:Heap}{A:ba}{outer:List Env}{s:Shared}{H:Hp}(e:Env0 P w K mg base A outer s H) (C:Addr) (us:List ag) (kw:List (Str×ag)) :
  Env0 P w K mg base (A.under (.builtin "type.__call__" ⟨.ref C::us,kw⟩)) outer s H:=⟨by first | exact e.frames | (simpa [mX,Code.envs,mY,pushEnvs] using e.frames),e.mod,e.bs,e.bsz,e.funs,e.frf,e.hok,e.bare⟩
theorem Env0.in1 {P:Program}{w:aV}{K:aj}{mg:Str->Option ag}{base:Heap}{A:ba}{outer:List Env}{s:Shared}{H:Hp}(e:Env0 P w K mg base A outer s H) :
  Env0 P w K mg base A.in1 outer s H:=⟨e.frames,e.mod,e.bs,e.bsz,e.funs,e.frf,e.hok,e.bare⟩
section
variable {X:Cx}{pins:List (Addr×Obj)}{σ:St}{H:Hp}{s s':Shared}
theorem Inv.env0 (I:Inv X pins σ H s):Env0 X.prog X.w X.K X.mg X.base X.A X.stack s H :=
 ⟨I.ok.frames,I.ok.mod,I.bs,aF I.ok.bsz I.sz,I.stack,I.stkFree,I.hok,I.bare⟩
theorem Inv.after {Q:VK}{u:ag}(I:Inv X pins σ H s) (h:CE X.stack X.prog X.w H s Q u s'):EP X pins σ Q u s':=by
 obtain ⟨v,H',os,bare,un,hok,r,q⟩:=h
 obtain ⟨hh,g,d,t,os'⟩:=s'
 obtain rfl:os'=s.os:=os
 exact ⟨v,H',I.call (h':=hh) (g':=g) (d':=d) (t':=t) (ch:=[]) un hok bare (λb z=>absurd z (by simp)),r,q⟩
end
def Vh (sp:Sp) (dvs:List V) (E:XK) (t:TA):TE:=λσ H Q=>t σ H λvs H1=>sp (vs++dvs) H1 Q E
def Vb (C:Addr) (m:Str) (sp:Sp) (dvs:List V) (E:XK) (ta:TE) (t:TA):TE:=λσ H Q=>ta σ H λx H1=>∃a dx fs,x = .ref a/\H1 a=some (.ins C dx fs)/\fs.lookup m=none /\
 t σ H1 λvs H2=>sp (x::(vs++dvs)) H2 Q E
def zP (K:aj) (fd:FuncData) (ps:List Str) (ds:List ag):Prop :=
 ∀(s:Shared) (us:List ag),K.In s.heap->(us++ds).length=ps.length->oI s fd ⟨us,[]⟩ (ps.zip (us++ds))
theorem zP.all {K:aj}{fd:FuncData}{ps:List Str}(h:∀us:List ag,us.length=ps.length->cv fd ⟨us,[]⟩=pure (ps.zip us)):zP K fd ps []:=λs us _ hl=>by
 rw [bo] at hl ⊢
 exact .of_eq (h us hl)
def kz (CX:CXT) (X:Cx) (E:XK):Prop:=∀(pins:List (Addr×Obj)) (σ:St) (H:Hp) (s:Shared) (e:ag) (s':Shared),Inv X pins σ H s->CX X.stack H s E e s'->X.xe e s'
section
variable {X:Cx}{CX:CXT}{k:Nat}{f C:Addr}{fd:FuncData}{ps:List Str}{sp:Sp}{dvs:List V}{ds:List ag}{E:XK}{x m:Str}{p pos apos:Pos}{e o:Expr}{es:List Expr}{ta:TE}{t:TA}
theorem Yb {pins:List (Addr×Obj)}{σ:St}{H:Hp}{s:Shared}{Q:VK}{us:List ag}{vs:List V}(F:FnOk X.prog X.w X.K X.mg X.base CX k f fd ps sp) (hr:Room k X.A) (hb:zP X.K fd ps ds) (hd:jx dvs ds) (hx:kz CX X E)
  (I:Inv X pins σ H s) (r:jx vs us) (h:sp (vs++dvs) H Q E):ay (aC X.prog X.w) X.A (call (.ref f) us) (EP X pins σ Q) X.xe s:=by
 have r2:jx (vs++dvs) (us++ds):=r.append hd
 have hl:(us++ds).length=ps.length:=by rw [<- r2.length];exact F.len _ _ _ _ h
 refine lp (dj (F.run X.A X.stack s H ⟨us,[]⟩ (us++ds) (vs++dvs) Q E hr I.env0 (hb s us I.kIn hl) r2 h) λr s' hq=>?_)
 cases r with
 | error e=>exact hx pins σ H s e s' I hq
 | ok fl =>
  cases fl with
  | ret u=>exact I.after hq
  | next=>exact bu hq
  | brk=>exact bu hq
  | cont=>exact bu hq
theorem YI (F:FnOk X.prog X.w X.K X.mg X.base CX k f fd ps sp) (hr:Room k X.A) (hg:Gl X x) (hm:X.mg x=some (.ref f)) (hk:bJ X.K (.ref f)=true) (hb:zP X.K fd ps ds) (hd:jx dvs ds) (hx:kz CX X E)
  (ha:PA X (e::es) t) (hdb:(x == ("__debug__" : Str))=false:=by decide) (he:aH (e::es) X.env=(false,eval e X.env)::aH es X.env:=by rfl) (hpl:(ck pos (aH es X.env)).any (·.1)=false:=by rfl) :
  PE X (.Call (.Name x p) (e::es) [] pos) (Vh sp dvs E t):=by
 intro pins s σ H Q I h
 refine cF (yQ I hg hm ?_ hdb)
 refine dM (h₀:=X.base) I.ok.mod.kin hk (thn (ha pos pins s σ H _ I h) λus s1 ⟨vs,H1,I1,r,q⟩=>⟨I1.kIn,?_⟩) he hpl
 exact Yb F hr hb hd hx I1 r q
theorem YE {pl:Sem Bool}(he:PE X o ta) (c:Cls X.K C) (hm:Meth X.K C m f) (F:FnOk X.prog X.w X.K X.mg X.base CX k f fd ps sp) (hr:Room k X.A) (hb:zP X.K fd ps ds) (hd:jx dvs ds) (hx:kz CX X E) (ha:PA X (e::es) t)
  (hst:aH (e::es) X.env=(false,eval e X.env)::aH es X.env:=by rfl) (hpl:(ck pos (aH es X.env)).any (·.1)=false:=by rfl)
  (ht:eval (.Call (.Attribute o m apos) (e::es) [] pos) X.env=(do
   let ov <- eval o X.env
   eU apos.atName
   let (f,first) <- eF [ov] (iU ov m pl)
   mW pos f first (ck pos (aH (e::es) X.env)) (iq pos (ee [] X.env))):=by rfl) :
  PE X (.Call (.Attribute o m apos) (e::es) [] pos) (Vb C m sp dvs E ta t):=by
 intro pins s σ H Q I h
 refine fL (pl:=pl) (thn (he pins s σ H _ I h) λu s1 ⟨x,H1,I1,rx,a,dx,fs,ex,ea,l,q⟩=>?_) ht
 subst ex
 obtain rfl:u=b0 a:=rx
 refine yF I1 ea c hm l ?_
 refine dM (first:=[.ref a]) (h₀:=X.base) I.ok.mod.kin hm.kp (thn (ha pos pins s1 σ H1 _ I1 q) λus s2 ⟨vs,H2,I2,r,q2⟩=>⟨I2.kIn,?_⟩) hst hpl
 exact Yb (us:=.ref a::us) (vs:=.ref a::vs) F hr hb hd hx I2 (.cons rfl r) q2
structure Mk (K:aj) (C f:Addr):Prop where
 makes:lJ K C=true
 init:bB K (.ref C) "__init__" = some (some (.ref f))
 fn:mV K (.ref f)=true
 kp:bJ K (.ref C)=true
end
section
variable {X:Cx}{CX:CXT}{k:Nat}{f C:Addr}{fd:FuncData}{ps ks:List Str}{sp:Sp}{E:XK}{x m:Str}{p pos apos kpos:Pos}{e o:Expr}{es:List Expr}{kws:List lq}{te ta:TE}{t tk:TA}{nm:Option Str}
variable {g:List ag->List ag->List ag}{gV:List V->List V->List V}
end
structure FnScope (N P:List Str) (sc:Scope):Prop where
 kind:sc.kind = .function
 co:sc.isCoroutine=false
 gen:sc.isGenerator=false
 nd:N.Nodup
 pre:N.take P.length=P
 par:∀x∈P,sc.names.lookup x=some .local\/sc.names.lookup x=some .cell
 nofree:∀y∈sc.names,y.2≠.free
theorem kg {kindOf:Str->Option fA}{x:Str}:∀{binds:List (Str×ag)}{m:Str->Option ag},(∀v,(x,v)∉binds)->oW kindOf binds m x=m x
 | [],_,_=>rfl
 | (n,v)::r,m,h=>by
  unfold oW
  rw [kg λw hw=>h w (aD _ hw)]
  split
  ·have:x≠n:=by rintro rfl;exact h v aG
   simp [this]
  ·rfl
theorem wT {kindOf:Str->Option fA}{x:Str}:∀{binds:List (Str×ag)}{m:Str->Option ag},(∀v,(x,v)∉binds)->oX kindOf binds m x=m x
 | [],_,_=>rfl
 | (n,v)::r,m,h=>by
  unfold oX
  rw [wT λw hw=>h w (aD _ hw)]
  split
  ·rfl
  ·have:x≠n:=by rintro rfl;exact h v aG
   simp [this]
theorem wU {kindOf:Str->Option fA}{x:Str}{v:ag}:∀{P:List Str}{vs:List ag}{i:Nat}{m:Str->Option ag},P.Nodup->P[i]? = some x->vs[i]? = some v->kindOf x=some .local ->
  oW kindOf (P.zip vs) m x=some v
 | [],_,_,_,_,h,_,_=>by simp at h
 | _::_,[],_,_,_,_,h,_=>by simp at h
 | p::P,w::vs,0,m,nd,h1,h2,hk=>by
  simp at h1 h2;subst h1;subst h2
  show oW kindOf ((p,w)::P.zip vs) m p=_
  unfold oW
  rw [kg λv hv=>(List.nodup_cons.mp nd).1 (i0 hv).1,if_pos hk]
  simp
 | p::P,w::vs,i+1,m,nd,h1,h2,hk=>by
  show oW kindOf ((p,w)::P.zip vs) m x=_
  unfold oW
  exact wU (i:=i) (List.nodup_cons.mp nd).2 (by simpa using h1) (by simpa using h2) hk
theorem k8 {kindOf:Str->Option fA}{x:Str}{v:ag}:∀{P:List Str}{vs:List ag}{i:Nat}{m:Str->Option ag},P.Nodup->P[i]? = some x->vs[i]? = some v->kindOf x≠some .local ->
  oX kindOf (P.zip vs) m x=some v
 | [],_,_,_,_,h,_,_=>by simp at h
 | _::_,[],_,_,_,_,h,_=>by simp at h
 | p::P,w::vs,0,m,nd,h1,h2,hk=>by
  simp at h1 h2;subst h1;subst h2
  show oX kindOf ((p,w)::P.zip vs) m p=_
  unfold oX
  rw [wT λv hv=>(List.nodup_cons.mp nd).1 (i0 hv).1,if_neg hk]
  simp
 | p::P,w::vs,i+1,m,nd,h1,h2,hk=>by
  show oX kindOf ((p,w)::P.zip vs) m x=_
  unfold oX
  exact k8 (i:=i) (List.nodup_cons.mp nd).2 (by simpa using h1) (by simpa using h2) hk
def start (N:List Str) (vs:List V):St:=vs.map some++cZ (N.length-vs.length) none
def yI (CX:CXT) (P:Program) (w:aV) (K:aj) (mg:Str->Option ag) (base:Heap) (N:List Str) (qual:Str) (scope:Scope) (f:Addr) (cd:ag) (A:ba) (outer:List Env) (s:Shared) (H:Hp) (E:XK):Cx where
 prog:=P
 w:=w
 K:=K
 mg:=mg
 base:=base
 A:=A.deeper (iL qual scope s.heap.objs.size f cd)
 N:=N
 s₀:=s
 H₀:=H
 env:=iL qual scope s.heap.objs.size f cd
 outer:=outer
 stack:=iL qual scope s.heap.objs.size f cd::outer
 ex:=[]
 calm:=true
 fn:=λ_=>true
 pn:=[]
 xe:=λe s'=>ay (aC P w) (A.deeper (iL qual scope s.heap.objs.size f cd)) (mh (iL qual scope s.heap.objs.size f cd) e) (λ_ s''=>CX outer H s E e s'') (λe' s''=>CX outer H s E e' s'') s'
theorem Jv {sc:Scope}{n:Nat}{x:Str}(h:sc.names.lookup x=some .cell):∃c,(nR n sc.names []).lookup x=some c:=by
 have q:=fB sc.names n [] (.inl h)
 exact Option.isSome_iff_exists.mp q
theorem wO {CX:CXT}{P:Program}{w:aV}{K:aj}{mg:Str->Option ag}{base:Heap}{N ps:List Str}{qual:Str}{scope:Scope}{f:Addr}{cd:ag}{A:ba}{outer:List Env}{s s1:Shared}{H:Hp}{E:XK}{us:List ag}{vs:List V}
  (S:FnScope N ps scope) (hd:A.handled=none) (e0:Env0 P w K mg base A outer s H) (hl:vs.length=ps.length) (r:jx vs us)
  (x:InCallC s s.heap.objs.size (oW (iL qual scope s.heap.objs.size f cd).kindOf (ps.zip us) λ_=>none) (nR (s.heap.objs.size+1) scope.names []) (oX (iL qual scope s.heap.objs.size f cd).kindOf (ps.zip us) λ_=>none) s1) :
  Inv (yI CX P w K mg base N qual scope f cd A outer s H E) [] (start N vs) H s1:=by
 have hpl:ps.length<=N.length:=by have:=congrArg lX S.pre;rw [aM] at this;omega
 obtain ⟨h1,tk,rfl,hk⟩:=x.done
 have noA:∀b:Addr,b∉(yI CX P w K mg base N qual scope f cd A outer s H E).ex:=λb z=>absurd (show b∈([]:List Addr) from z) (by simp)
 refine ⟨⟨e0.mod,S.kind,rfl,rfl,ao _,λy z c h1 h2=>?_,λy hy=>?_,λy c _ h=>?_,λ_=>hd,Around.frames_deeper e0.frames,.inr ⟨rfl,rfl⟩,λb z=>absurd z (noA b),e0.bs,e0.bsz,λb _ _=>noA b,λb z=>absurd z (noA b),e0.funs,e0.frf⟩,
  rfl,e0.bare,Un.kept hk,⟨_,x.toInCall.ns,λi y v h1 h2 h3=>?_⟩,λy c h=>⟨_,x.cell y c h⟩,e0.hok.fresh (ao _),λy c h=>?_,λp hp=>absurd (show p∈([]:List (Addr×Obj)) from hp) (by simp),e0.hok.kept hk,?_⟩
 ·exact name_of_addr x.apart (cS h1) (cS h2)
 ·have hy:scope.names.lookup y=some .cell\/scope.names.lookup y=some .free:=hy
  rcases hy with hy | hy
  ·exact Jv hy
  ·exact absurd rfl (S.nofree _ (cS hy))
 ·exact cU (x.above y c (cS h))
 ·have hi:i<vs.length:=by
   unfold start at h2
   by_cases hi:i<vs.length
   ·exact hi
   ·rw [cw (by simpa using hi)] at h2
    rw [iV] at h2
    split at h2 <;> cases h2
  have ha:vs[i]? = some v:=by
   unfold start at h2
   rw [cD (by simpa using hi),au] at h2
   cases e:vs[i]? with
   | none=>rw [e] at h2;cases h2
   | some a=>rw [e] at h2;cases h2;rfl
  obtain ⟨u,hu,rv⟩:=r.get ha
  have hp:ps[i]? = some y:=by
   rw [<- S.pre,List.getElem?_take_of_lt ∅];exact h1
  have ndP:ps.Nodup:=by rw [<- S.pre];exact S.nd.sublist (List.take_sublist _ _)
  refine ⟨u,rv,?_⟩
  rcases S.par y (av hp) with k | k
  ·exact .inl ⟨k,wU ndP hp hu k⟩
  ·obtain ⟨c,e⟩:=Jv (n:=s.heap.objs.size+1) k
   refine .inr ⟨.inl k,c,e,?_⟩
   have q:=x.cell y c e
   rw [k8 ndP hp hu (by show scope.names.lookup y≠_;rw [k];decide)] at q
   exact q
 ·exact e0.hok.fresh (cU (x.above y c (cS h)))
 ·unfold start
  show _=N.length
  rw [ax,af,bD]
  omega
theorem Zb {CX:CXT}{P:Program}{w:aV}{K:aj}{mg:Str->Option ag}{base:Heap}{k:Nat}{f:Addr}{name qual:Str}{params:Arguments}{body:List Stmt}{scope:Scope}{dV kV doc pm cdv ct oc:ag}{an od:Option Addr}
  {osl:Array (Option ag)} {N ps:List Str} {sp:Sp} (lk:K.lookup f=some ⟨oc,od,.func (bx name qual params body scope dV kV doc pm an cdv ct),osl⟩) (hcd:cx K cdv qual=true) (S:FnScope N ps scope)
  (len:∀vs H Q E,sp vs H Q E->vs.length=ps.length)
  (hbody:∀(A:ba) (outer:List Env) (s:Shared) (H:Hp) (vs:List V) (Q:VK) (E:XK),Room k (A.deeper (iL qual scope s.heap.objs.size f cdv))->sp vs H Q E ->
   ∃t,PSs (yI CX P w K mg base N qual scope f cdv A outer s H E) body t/\t { nx:=λ_ H'=>Q .non H',rt:=Q } (start N vs) H) :
  FnOk P w K mg base CX (k+1) f (bx name qual params body scope dV kV doc pm an cdv ct) ps sp:=by
 refine ⟨len,λA outer s H args us vs Q E hr e0 hb r hsp=>?_⟩
 have hl:=len _ _ _ _ hsp
 have KX:K.In s.heap:=e0.mod.kin.keeps λb o e=>(e0.bs b o e).1
 have lim:s.heap.NoLimit:=e0.mod.nolimit.keeps λb o e=>(e0.bs b o e).1
 have hkind:∀y∈ps.zip us,scope.names.lookup y.1=some .local\/(scope.names.lookup y.1=some .cell/\((nR (s.heap.objs.size+1) scope.names []).lookup y.1).isSome=true):=λ⟨n,v⟩ hy=>by
  rcases S.par n (i0 hy).1 with q | q
  ·exact .inl q
  ·exact .inr ⟨q,fB _ _ _ (.inl q)⟩
 refine codeAny_call_function hr.depth (KX _ _ lk) rfl S.co S.gen rfl (PySem.W.codeRec_of KX hcd) (hb _ _ _ _ ?_)
 refine iu S.kind hkind λenv he s1 x=>?_
 subst he
 refine ⟨lim.keeps x.toInCall.keep,codeAny_func ?_⟩
 obtain ⟨t,ht,hq⟩:=hbody A outer s H vs Q E (hr.deeper _) hsp
 have I:Inv (yI CX P w K mg base N qual scope f cdv A outer s H E) [] (start N vs) H s1:=wO S hr.hd e0 hl r x
 refine aX (ht [] s1 (start N vs) H _ I hq) (λfl s' hs=>?_) λe s' hs=>hs
 have fin:∀{σ':St} {H':Hp} {v:V} {u:ag},Inv (yI CX P w K mg base N qual scope f cdv A outer s H E) [] σ' H' s'->jA v u->Q v H'->CE outer P w H s Q u s' :=
  λ{σ' H' v u} J rv q=>⟨v,H',J.os,J.bare,J.base,J.hok,rv,q⟩
 cases fl with
 | ret u =>
  obtain ⟨v,σ',H',J,rv,q⟩:=hs
  exact fin J rv q
 | next =>
  obtain ⟨σ',H',J,q⟩:=hs
  exact fin (v:=V.non) (u:=aT) J rfl q
 | brk =>
  obtain ⟨_,_,_,q⟩:=hs
  exact bu q
 | cont =>
  obtain ⟨_,_,_,q⟩:=hs
  exact bu q
end L2
namespace L2
section
variable {X:Cx}{x:Str}{p pos:Pos}{e:Expr}{es:List Expr}{t:TA}{id T:String}{r:List V->Hp->VK->Prop}
def tCB (r:List V->Hp->VK->Prop) (t:TA):TE:=λσ H Q=>t σ H λvs H1=>r vs H1 Q
theorem jg (hc:qu X (.builtin id) r) (hg:Gl X x) (hm:X.mg x=none) (hv:ic x=some (.builtin id)) (ha:PA X (e::es) t) (hn:x ≠ "__name__":=by decide) (hdb:(x == ("__debug__" : Str))=false:=by decide)
  (he:aH (e::es) X.env=(false,eval e X.env)::aH es X.env:=by rfl) (hpl:(ck pos (aH es X.env)).any (·.1)=false:=by rfl):PE X (.Call (.Name x p) (e::es) [] pos) (tCB r t):=by
 intro pins s σ H Q I h
 refine cF (zI I hg hm hv ?_ hn hdb)
 exact PyProof.Rows.callWith_builtin1 (thn (ha pos pins s σ H _ I h) λus s1 ⟨vs,H1,I1,r1,q1⟩=>hc pins s1 σ H1 vs us Q I1 r1 q1) he hpl
theorem jP (hc:qu X (.type T) r) (hg:Gl X x) (hm:X.mg x=none) (hv:ic x=some (.type T)) (ha:PA X (e::es) t) (hn:x ≠ "__name__":=by decide) (hdb:(x == ("__debug__" : Str))=false:=by decide)
  (he:aH (e::es) X.env=(false,eval e X.env)::aH es X.env:=by rfl) (hpl:(ck pos (aH es X.env)).any (·.1)=false:=by rfl):PE X (.Call (.Name x p) (e::es) [] pos) (tCB r t):=by
 intro pins s σ H Q I h
 refine cF (zI I hg hm hv ?_ hn hdb)
 exact bU (thn (ha pos pins s σ H _ I h) λus s1 ⟨vs,H1,I1,r1,q1⟩=>hc pins s1 σ H1 vs us Q I1 r1 q1) he hpl
end
end L2
namespace HT
open PySem PyProof.Rows
section
open PySem.SeqAt
open PySem.AutoSeq1 (wpAny_loadPart')
open PySem.MeetsSeq PySem.MeetsSeq2 PySem.MeetsSeq3
end
section
variable {prog:Program}{w:aV}{A:ba}{E:ag->Shared->Prop}{s:Shared}
def sIx (n d:Nat):Option Int->Nat
 | none=>d
 | some v=>if v<0 then (v+(n:Int)).toNat else min v.toNat n
theorem sIx_none (n d:Nat):sIx n d none=d:=rfl
theorem slicePart_ {v:ag}{o:Option Int}{Q:Option Int->Shared->Prop}(p:oY v o) (h:Q o s):ay (aC prog w) A (Builtin.Slice.slicePartIndex v) Q E s:=by
 cases p with
 | none=>exact slicePart_none h
 | int i t=>exact slicePart_int h
end
end HT
namespace L2
abbrev TO:=St->Hp->(Option Int->Hp->Prop)->Prop
def PO (X:Cx) (e:Option Expr) (t:TO):Prop :=
 ∀(pins:List (Addr×Obj)) (s:Shared) (σ:St) (H:Hp) (Q:Option Int->Hp->Prop),Inv X pins σ H s->t σ H Q ->
  ay (aC X.prog X.w) X.A (evalPart e X.env) (λu s'=>∃o H',Inv X pins σ H' s'/\oY u o/\Q o H') X.xe s
def V0:TO:=λ_ H Q=>Q none H
def UV (t:TE):TO:=λσ H Q=>t σ H λx H1=>∃i,x = .int i/\Q (some i) H1
section
variable {X:Cx}{e:Expr}{te:TE}{lo hi:Option Expr}{tl th:TO}{pos p2:Pos}
theorem QS:PO X none V0:=by
 intro pins s σ H Q I h
 rw [iM]
 exact wpAny_pure ⟨none,H,I,.none,h⟩
theorem Qv (h:PE X e te):PO X (some e) (UV te):=by
 intro pins s σ H Q I hw
 rw [mx]
 refine thn (h pins s σ H _ I hw) λu s1 ⟨x,H1,I1,r1,q1⟩=>?_
 obtain ⟨i,rfl,q⟩:=q1
 obtain ⟨t,rfl⟩:=r1
 exact ⟨some i,H1,I1,.int i t,q⟩
def SlR (X:Cx) (r:V->Option Int->Option Int->Hp->VK->Prop):Prop :=
 ∀(pins:List (Addr×Obj)) (s:Shared) (σ:St) (H:Hp) (x:V) (v vl vu:ag) (lo hi:Option Int) (sl:Addr) (Q:VK),Inv X pins σ H s->jA x v->s.heap.IsSliceOf sl vl vu .none->oY vl lo->oY vu hi->r x lo hi H Q ->
  ∃T id,oZ (.type T) "__getitem__" = pure (some (.builtin id))/\s.TypeIs v T/\ay (aC X.prog X.w) X.A (lr v (.ref sl)) (EP X pins σ Q) X.xe s
def tSl (r:V->Option Int->Option Int->Hp->VK->Prop) (te:TE) (tl th:TO):TE:=λσ H Q=>te σ H λx H1=>tl σ H1 λl H2=>th σ H2 λu H3=>r x l u H3 Q
theorem gK {r:V->Option Int->Option Int->Hp->VK->Prop}(hr:SlR X r) (he:PE X e te) (hl:PO X lo tl) (hu:PO X hi th):PE X (.Subscript e (.Slice lo hi none p2) pos) (tSl r te tl th):=by
 intro pins s σ H Q I h
 refine lu (thn (he pins s σ H _ I h) λv s1 ⟨x,H1,I1,r1,q1⟩=>?_)
 refine oj (thn (hl pins s1 σ H1 _ I1 q1) λvl s2 ⟨l,H2,I2,pl,q2⟩=>thn (hu pins s2 σ H2 _ I2 q2) λvu s3 ⟨u,H3,I3,pu,q3⟩=>?_)
 rw [iM]
 refine wpAny_pure ?_
 have I4:Inv X pins σ H3 { s3 with heap:=s3.heap.push { cls:=.type "slice",data:=.fields #[vl,vu,.none] } }:=I3.kept (t':=s3.toks) λb ob q=>ah _ q
 obtain ⟨T,id,hT,ht,hg⟩:=hr pins { s3 with heap:=s3.heap.push { cls:=.type "slice",data:=.fields #[vl,vu,.none] } } σ H3 x v vl vu l u s3.heap.objs.size Q I4 r1 (iz ..) pl pu q3
 show ay (aC X.prog X.w) X.A (fP e (.Slice lo hi none p2) v (.ref s3.heap.objs.size)) (EP X pins σ Q) X.xe { s3 with heap:=s3.heap.push { cls:=.type "slice",data:=.fields #[vl,vu,.none] } }
 exact rf (ops:=[.ref s3.heap.objs.size,v]) ht hT hg (by with_unfolding_all rfl)
def kA (xs:List V) (lo hi:Option Int):List V:=(xs.drop (HT.sIx xs.length 0 lo)).take (HT.sIx xs.length xs.length hi-HT.sIx xs.length 0 lo)
theorem J9 (xs:List V) (lo hi:Option Int):(kA xs lo hi).length<=xs.length:=by
 unfold kA
 rw [aM,iW]
 omega
end
end L2
namespace L2
def ixN (n:Nat) (i:Int):Option Nat:=if 0<=i then (if i<n then some i.toNat else none) else if -(n:Int)<=i then some (i+n).toNat else none
def atI {α:Type}(xs:List α) (i:Int):Option α:=(ixN xs.length i).bind λj=>xs[j]?
theorem QO {n:Nat}{i:Int}{j:Nat}(h:ixN n i=some j):seqIndex? i n=some j/\j<n /\ -(n:Int)<=i/\i<n:=by
 unfold ixN at h
 by_cases h0:0<=i
 ·rw [if_pos h0] at h
  by_cases h1:i<n
  ·rw [if_pos h1] at h
   have e:i.toNat=j:=aQ h
   exact ⟨by rw [om h0 h1,e],∅,∅,h1⟩
  ·rw [if_neg h1] at h;cases h
 ·rw [if_neg h0] at h
  by_cases h1 : -(n:Int)<=i
  ·rw [if_pos h1] at h
   have e:(i+n).toNat=j:=aQ h
   exact ⟨by rw [n5 ∅ h1,e],∅,h1,∅⟩
  ·rw [if_neg h1] at h;cases h
theorem Qu {α:Type}{xs:List α}{i:Int}{v:α}(h:atI xs i=some v):∃j,seqIndex? i xs.length=some j/\xs[j]? = some v/\j<xs.length /\ -(xs.length:Int)<=i/\i<xs.length:=by
 unfold atI at h
 cases e:ixN xs.length i with
 | none=>rw [e] at h;cases h
 | some j =>
  rw [e] at h
  obtain ⟨h1,h2,h3,h4⟩:=QO e
  exact ⟨j,h1,h,h2,h3,h4⟩
theorem zc {α:Type}{xs:List α}{j:Nat}{v:α}(h:xs[j]? = some v):atI xs (j:Int)=some v:=by
 have hj:j<xs.length:=(List.getElem?_eq_some_iff.mp h).1
 have e:ixN xs.length (j:Int)=some j:=by
  unfold ixN
  rw [if_pos ∅,if_pos ∅];simp
 unfold atI;rw [e];exact h
theorem Jo {α:Type}(xs:List α) (v:α):atI (xs++[v]) (-1)=some v:=by
 have hl:(xs++[v]).length=xs.length+1:=by simp
 have e:ixN (xs++[v]).length (-1)=some xs.length:=by
  unfold ixN
  rw [hl,if_neg ⋯,if_pos ∅]
  congr 1
  omega
 unfold atI
 rw [e]
 show (xs++[v])[xs.length]? = some v
 simp
def Yy (b:Expr):Prop:=∀o i,lY b false o i=operate [o,i] (lr o i)
def IxR (X:Cx) (r:R2):Prop :=
 ∀(value slice:Expr) (pins:List (Addr×Obj)) (s:Shared) (σ:St) (H:Hp) (x y:V) (v u:ag) (Q:VK),Inv X pins σ H s->jA x v->jA y u->r x y H Q ->
  lY slice false v u=operate [v,u] (lr v u)->ay (aC X.prog X.w) X.A (fP value slice v u) (EP X pins σ Q) X.xe s
def MtR (X:Cx) (id:String) (r:V->List V->Hp->VK->Prop):Prop :=
 ∀(pins:List (Addr×Obj)) (s:Shared) (σ:St) (H:Hp) (x:V) (xs:List V) (v:ag) (us:List ag) (Q:VK),Inv X pins σ H s->jA x v->jx xs us->r x xs H Q ->
  ay (aC X.prog X.w) X.A (call (.builtin id) (v::us)) (EP X pins σ Q) X.xe s
section
variable {X:Cx}{a b:Expr}{ta tb:TE}{pos:Pos}
theorem jq {r:R2}(hr:IxR X r) (ha:PE X a ta) (hb:PE X b tb) (hs:Yy b):PE X (.Subscript a b pos) (tOp r ta tb):=by
 intro pins s σ H Q I h
 exact lu (VS ha hb I h λv u s2 x y H2 I2 rx ry q=>hr a b pins s2 σ H2 x y v u Q I2 rx ry q (hs _ _))
def Vu (K:aj):R2:=λx y H Q=>∃p xs i v,x = .ref p/\y = .int i/\SqL K H p xs/\atI xs i=some v/\Q v H
def VZ (K:aj):R2:=λx y H Q=>∃p xs i v,x = .ref p/\y = .int i/\SqT K H p xs/\atI xs i=some v/\Q v H
theorem Yg:IxR X (Vu X.K):=by
 intro value slice pins s σ H x y v u Q I rx ry h hs
 obtain ⟨p,xs,i,z,rfl,rfl,hq,he,q⟩:=h
 cases rx
 obtain ⟨t,rfl⟩:=ry
 obtain ⟨its,r,pl,hz⟩:=I.list hq
 obtain ⟨j,h1,h2,h3,h4,h5⟩:=Qu he
 obtain ⟨w,ew,rw'⟩:=r.get h2
 have hl:=r.length
 have hn:=kF
 have fin:EP X pins σ Q w s:=⟨z,H,I,rw',q⟩
 by_cases h0:0<=i
 ·have hj:i.toNat=j:=by
   rw [om h0 h5] at h1
   exact aQ h1
  exact item_listR pl.isList h0 ∅ (by rw [hj];simpa using ew) fin hs
 ·have hj:(i+(its.toArray.size:Int)).toNat=j:=by
   rw [n5 ∅ h4] at h1
   rw [aw,<- hl]
   exact aQ h1
  exact lx (x:=w) pl.isList.typeIs slot_list_getitem.lookup
   (wpAny_getItem_list_neg (Q:=λr s'=>r=w/\EP X pins σ Q r s') pl.isList ∅ (by rw [aw] <;> omega) ∅ (by rw [hj];simpa using ew) ⟨rfl,fin⟩) hs
theorem VO:IxR X (VZ X.K):=by
 intro value slice pins s σ H x y v u Q I rx ry h hs
 obtain ⟨p,xs,i,z,rfl,rfl,hq,he,q⟩:=h
 cases rx
 obtain ⟨t,rfl⟩:=ry
 obtain ⟨its,r,pl,hz⟩:=I.tuple hq
 obtain ⟨j,h1,h2,h3,h4,h5⟩:=Qu he
 obtain ⟨w,ew,rw'⟩:=r.get h2
 have hl:=r.length
 have hn:=kF
 have fin:EP X pins σ Q w s:=⟨z,H,I,rw',q⟩
 exact lx (x:=w) pl.typeIs slot_tuple_getitem.lookup
  (getItem_tuple (j:=j) (Q:=λr s'=>r=w/\EP X pins σ Q r s') pl ∅ ∅ (by rw [aw,<- hl];exact h1) (by simpa using ew) ⟨rfl,fin⟩) hs
theorem Qe (its:List ag) (n j:Nat) (u:ag):aR (·.setIfInBounds j u) { cls:=.type "list",data:=.seq its.toArray n }={ cls:=.type "list",data:=.seq (its.set j u).toArray n }:=by
 simp [aR]
theorem Inv.lst {pins:List (Addr×Obj)}{σ:St}{H:Hp}{s:Shared}{p:Addr}{xs:List V}(I:Inv X pins σ H s) (h:H p=some (.lst xs)) :
  ∃(its:List ag) (n:Nat),jx xs its/\s.heap.get? p=some { cls:=.type "list",data:=.seq its.toArray n }/\xs.length<=sizeLine:=by
 obtain ⟨z,its,n,r,e⟩:=I.hok p _ h
 exact ⟨its,n,r,e,z⟩
theorem Inv.lstUpd {pins:List (Addr×Obj)}{σ:St}{H:Hp}{s:Shared}{p:Addr}{xs ys:List V}{its its':List ag}{n n':Nat}{f:Obj->Obj}(I:Inv X pins σ H s) (h:H p=some (.lst xs))
  (ho:s.heap.get? p=some { cls:=.type "list",data:=.seq its.toArray n }) (hf:f { cls:=.type "list",data:=.seq its.toArray n }={ cls:=.type "list",data:=.seq its'.toArray n' }) (r:jx ys its') (hz:ys.length<=sizeLine) (t:Nat) :
  Inv X pins σ (upd H p (.lst ys)) { s with heap:=s.heap.update p f,toks:=t }:=by
 have e:(s.heap.update p f).get? p=some { cls:=.type "list",data:=.seq its'.toArray n' }:=by
  rw [cE f ho (by rw [hf] <;> rfl),hf]
 refine I.write (x:=p) (e:=p) (by rw [h];trivial) (.inl rfl) (λb u hb q=>(bq _ _ (c5 hb)).trans q) ⟨_,e⟩ ?_
 exact ⟨hz,its',n',r,e⟩
def Uq:V->V->V->Hp->(Hp->Prop)->Prop:=λo i v H Q=>∃p xs k j,o = .ref p/\i = .int k/\H p=some (.lst xs)/\ixN xs.length k=some j/\Q (upd H p (.lst (xs.set j v)))
theorem y7:Ut X Uq:=by
 intro pins s σ H o i v ov iv u Q I ro ri rv h
 obtain ⟨p,xs,k,j,rfl,rfl,hp,hj,q⟩:=h
 cases ro
 obtain ⟨t,rfl⟩:=ri
 obtain ⟨its,n,r,ho,hz⟩:=I.lst hp
 obtain ⟨h1,h2,h3,h4⟩:=QO hj
 have hl:=r.length
 have hn:=kF
 have I':Inv X pins σ (upd H p (.lst (xs.set j v))) { s with heap:=s.heap.update p (aR (·.setIfInBounds j u)) } :=
  I.lstUpd hp ho (Qe its n j u) (r.set rv j) (by rw [dh];exact hz) s.toks
 by_cases h0:0<=k
 ·have hk:k.toNat=j:=by
   rw [om h0 h4] at h1
   exact aQ h1
  exact PySem.W.ki_setAt ho h0 ∅ (by rw [aw,<- hl];exact h4) (by rw [hk];exact ⟨_,I',q⟩)
 ·have hk:(k+(its.toArray.size:Int)).toNat=j:=by
   rw [n5 ∅ h3] at h1
   rw [aw,<- hl]
   exact aQ h1
  exact PySem.W.ki_setBack ho ∅ (by rw [aw,<- hl];exact h3) ∅ (by rw [hk];exact ⟨_,I',q⟩)
theorem gq (lo hi:Option Int) (n:Nat):(fc lo hi none n).1=((HT.sIx n 0 lo:Nat):Int)/\(fc lo hi none n).2.1=((HT.sIx n n hi:Nat):Int)/\(fc lo hi none n).2.2=1:=by
 refine ⟨?_,?_,rfl⟩
 ·cases lo with
  | none=>simp [fc,HT.sIx]
  | some i =>
   simp only [fc,HT.sIx,nU,show (1:Int) > 0 by decide,if_true]
   by_cases h:i<0
   ·simp only [h,if_true] <;> omega
   ·simp only [h,if_false] <;> omega
 ·cases hi with
  | none=>simp [fc,HT.sIx]
  | some i =>
   simp only [fc,HT.sIx,nU,show (1:Int) > 0 by decide,if_true]
   by_cases h:i<0
   ·simp only [h,if_true] <;> omega
   ·simp only [h,if_false] <;> omega
theorem wC (its:List ag) (lo hi:Option Int):slicePick its.toArray lo hi none=((its.drop (HT.sIx its.length 0 lo)).take (HT.sIx its.length its.length hi-HT.sIx its.length 0 lo)).toArray:=by
 obtain ⟨h1,h2,h3⟩:=gq lo hi its.toArray.size
 unfold slicePick
 rw [h1,h2,h3]
 simp only [sliceRange_one,pick_run,aw] <;> rfl
def rSlL (K:aj):V->Option Int->Option Int->Hp->VK->Prop:=λx lo hi H Q=>∃a xs,x = .ref a/\SqL K H a xs/\∀p,H p=none->Q (.ref p) (upd H p (.lst (kA xs lo hi)))
theorem Yq:SlR X (rSlL X.K):=by
 intro pins s σ H x v vl vu lo hi sl Q I rx hs pl pu h
 obtain ⟨a,xs,rfl,hx,q⟩:=h
 cases rx
 obtain ⟨its,r,ht,hz⟩:=I.list hx
 have hlen:=r.length
 refine ⟨"list",_,slot_list_getitem.lookup,ht.isList.typeIs,?_⟩
 refine iN ht.isList hs pl pu .none (by simp) ?_ (by rw [aw] <;> omega)
 rw [wC,<- hlen]
 refine ⟨.ref s.heap.objs.size,_,I.laid (t':=s.toks) (o:=.lst (kA xs lo hi)) (λb ob q=>ah _ q) (ao _) ?_,rfl,q _ (I.hok.fresh (ao _))⟩
 exact ⟨aF (J9 xs lo hi) hz,_,0,(r.drop (HT.sIx xs.length 0 lo)).take (HT.sIx xs.length xs.length hi-HT.sIx xs.length 0 lo),az _ rfl⟩
def yR:V->Bool
 | .non=>true
 | .bl _=>true
 | .int _=>true
 | .str _=>true
 | _=>false
def eqV:V->V->Bool
 | .non,.non=>true
 | .bl a,.bl b=>a == b
 | .bl a,.int b=>(if a then 1 else 0) == b
 | .int a,.bl b=>a == (if b then 1 else 0)
 | .int a,.int b=>a == b
 | .str a,.str b=>a == b
 | _,_=>false
theorem Ud {A:ba}{s:Shared}{y x:V}{u v:ag}(ry:jA y u) (rx:jA x v) (fy:yR y=true) (fx:yR x=true):SeqAt.EqAt A s u v (eqV y x):=by
 cases y with
 | non =>
  cases ry
  cases x with
  | non=>cases rx;exact SeqAt.EqAt.same _
  | bl b=>cases rx;exact SeqAt.EqAt.none_bool b
  | int b=>obtain ⟨t,rfl⟩:=rx;exact SeqAt.EqAt.none_int b t
  | str b=>obtain ⟨t,rfl⟩:=rx;exact SeqAt.EqAt.none_str b t
  | _=>exact absurd (show false=true from fx) aq
 | bl a =>
  cases ry
  cases x with
  | non=>cases rx;exact SeqAt.EqAt.bool_none a
  | bl b=>cases rx;exact SeqAt.EqAt.bool_bool a b
  | int b=>obtain ⟨t,rfl⟩:=rx;exact SeqAt.EqAt.bool_int a b t
  | str b=>obtain ⟨t,rfl⟩:=rx;exact SeqAt.EqAt.bool_str a b t
  | _=>exact absurd (show false=true from fx) aq
 | int a =>
  obtain ⟨t',rfl⟩:=ry
  cases x with
  | non=>cases rx;exact SeqAt.EqAt.int_none a t'
  | bl b=>cases rx;exact SeqAt.EqAt.int_bool a t' b
  | int b=>obtain ⟨t,rfl⟩:=rx;exact SeqAt.EqAt.int_int a t' b t
  | str b=>obtain ⟨t,rfl⟩:=rx;exact mD a t' b t
  | _=>exact absurd (show false=true from fx) aq
 | str a =>
  obtain ⟨t',rfl⟩:=ry
  cases x with
  | non=>cases rx;exact SeqAt.EqAt.str_none a t'
  | bl b=>cases rx;exact SeqAt.EqAt.str_bool a t' b
  | int b=>obtain ⟨t,rfl⟩:=rx;exact mE a t' b t
  | str b=>obtain ⟨t,rfl⟩:=rx;exact SeqAt.EqAt.str_str a t' b t
  | _=>exact absurd (show false=true from fx) aq
 | _=>exact absurd (show false=true from fy) aq
def eqU (x:V) (u:ag):Bool:=match u with
 | .none=>eqV .non x
 | .bool b=>eqV (.bl b) x
 | .int i _=>eqV (.int i) x
 | .str z _=>eqV (.str z) x
 | _=>false
theorem Zm {x y:V}{u:ag}(r:jA y u) (f:yR y=true):eqU x u=eqV y x:=by
 cases y with
 | non=>cases r;rfl
 | bl b=>cases r;rfl
 | int i=>obtain ⟨t,rfl⟩:=r;rfl
 | str z=>obtain ⟨t,rfl⟩:=r;rfl
 | _=>exact absurd (show false=true from f) aq
theorem vm {x:V}:∀{xs:List V}{us:List ag},jx xs us->xs.all yR=true->us.any (eqU x)=xs.any λy=>eqV y x
 | _,_,.nil,_=>rfl
 | y::xs,u::us,.cons r t,f=>by
  rw [my,bh] at f
  rw [eO,eO,Zm r f.1,vm t f.2]
theorem zX {A:ba}{s:Shared}{x:V}{v:ag}(rx:jA x v) (fx:yR x=true):∀{xs:List V}{us:List ag},jx xs us->xs.all yR=true->∀u∈us,SeqAt.EqAt A s u v (eqU x u)
 | _,_,.nil,_=>λu hu=>by cases hu
 | y::xs,u::us,.cons r t,f=>λu' hu=>by
  rw [my,bh] at f
  rcases List.mem_cons.mp hu with rfl | hu
  ·rw [Zm r f.1];exact Ud r rx f.1 fx
  ·exact zX rx fx t f.2 u' hu
def inV (x:V) (xs:List V):Bool:=xs.any λy=>eqV y x
def rIn (K:aj) (neg:Bool):R2:=λx y H Q=>∃p xs,y = .ref p/\(SqL K H p xs\/SqT K H p xs)/\yR x=true/\xs.all yR=true/\Q (.bl (if neg then !inV x xs else inV x xs)) H
theorem XS:OpR X (cc .In) (rIn X.K false):=by
 intro pins s σ H x y v u Q I rx ry h
 obtain ⟨p,xs,rfl,hq,fx,fs,q⟩:=h
 cases ry
 rcases hq with hq | hq
 ·obtain ⟨its,r,pl,hz⟩:=I.list hq
  refine SeqAt.in_listAt (eqU x) pl.isList (λw hw=>zX rx fx r fs w (by simpa using hw)) ⟨.bl _,H,I,rfl,?_⟩
  rw [show its.toArray.any (eqU x)=its.any (eqU x) by simp,vm r fs]
  exact q
 ·obtain ⟨its,r,pl,hz⟩:=I.tuple hq
  refine SeqAt.in_tupleAt (eqU x) pl (λw hw=>zX rx fx r fs w (by simpa using hw)) ⟨.bl _,H,I,rfl,?_⟩
  rw [show its.toArray.any (eqU x)=its.any (eqU x) by simp,vm r fs]
  exact q
theorem kJ:OpR X (cc .NotIn) (rIn X.K true):=by
 intro pins s σ H x y v u Q I rx ry h
 obtain ⟨p,xs,rfl,hq,fx,fs,q⟩:=h
 cases ry
 rcases hq with hq | hq
 ·obtain ⟨its,r,pl,hz⟩:=I.list hq
  refine SeqAt.notIn_listAt (eqU x) pl.isList (λw hw=>zX rx fx r fs w (by simpa using hw)) ⟨.bl _,H,I,rfl,?_⟩
  rw [show its.toArray.any (eqU x)=its.any (eqU x) by simp,vm r fs]
  exact q
 ·obtain ⟨its,r,pl,hz⟩:=I.tuple hq
  refine SeqAt.notIn_tupleAt (eqU x) pl (λw hw=>zX rx fx r fs w (by simpa using hw)) ⟨.bl _,H,I,rfl,?_⟩
  rw [show its.toArray.any (eqU x)=its.any (eqU x) by simp,vm r fs]
  exact q
theorem hW:qu X (.builtin "len") (λxs H Q=>∃p ys,xs=[.ref p]/\(SqL X.K H p ys\/SqT X.K H p ys)/\Q (.int ys.length) H):=by
 intro pins s σ H xs us Q I r h
 obtain ⟨p,ys,rfl,hq,q⟩:=h
 obtain ⟨u,rfl,rx⟩:=xU r
 cases rx
 have hn:=kF
 rcases hq with hq | hq
 ·obtain ⟨its,r',pl,hz⟩:=I.list hq
  have hlen:=r'.length
  exact Calls.call_len_list pl.isList (by simp only [aw] <;> omega) ⟨.int ys.length,H,I.tok _,⟨s.toks+1,by rw [aw,hlen]⟩,q⟩
 ·obtain ⟨its,r',pl,hz⟩:=I.tuple hq
  have hlen:=r'.length
  exact len_tuple pl (by simp only [aw] <;> omega) ⟨.int ys.length,H,I.tok _,⟨s.toks+1,by rw [aw,hlen]⟩,q⟩
theorem kL:qu X (.type "list") (λxs H Q=>∃p ys,xs=[.ref p]/\(SqL X.K H p ys\/SqT X.K H p ys)/\∀l,H l=none->Q (.ref l) (upd H l (.lst ys))):=by
 intro pins s σ H xs us Q I r h
 obtain ⟨p,ys,rfl,hq,q⟩:=h
 obtain ⟨u,rfl,rx⟩:=xU r
 cases rx
 have fin:∀(its:List ag),jx ys its->ys.length<=sizeLine->∀(h':Heap) (c':Nat),(∀b o',s.heap.get? b=some o'->h'.get? b=some o') ->
   h'.get? s.heap.objs.size=some { cls:=.type "list",dict:=none,data:=.seq its.toArray c',slots:=#[] }->EP X pins σ Q (.ref s.heap.objs.size) { s with heap:=h' }:=λits r' hz h' c' kp e =>
  ⟨.ref s.heap.objs.size,_,I.laid (t':=s.toks) kp (ao _) (show qk X.prog X.w _ h' _ (.lst ys) from ⟨hz,its,c',r',e⟩),rfl,q _ (I.hok.fresh (ao _))⟩
 rcases hq with hq | hq
 ·obtain ⟨its,r',pl,hz⟩:=I.list hq
  have hlen:=r'.length
  obtain ⟨o,ho,hc,n,hd⟩:=pl.isList
  exact pN p (.inl rfl) ho hc hd (λh' c' kp e=>fin its r' hz h' c' kp e) (by simp only [aw] <;> omega)
 ·obtain ⟨its,r',pl,hz⟩:=I.tuple hq
  have hlen:=r'.length
  obtain ⟨o,ho,hc,n,hd⟩:=pl
  exact pN p (.inr rfl) ho hc hd (λh' c' kp e=>fin its r' hz h' c' kp e) (by simp only [aw] <;> omega)
theorem wq:qu X (.type "tuple") (λxs H Q=>∃p ys,xs=[.ref p]/\((SqL X.K H p ys/\∀l,H l=none->Q (.ref l) (upd H l (.tup ys)))\/(SqT X.K H p ys/\Q (.ref p) H))):=by
 intro pins s σ H xs us Q I r h
 obtain ⟨p,ys,rfl,h⟩:=h
 obtain ⟨u,rfl,rx⟩:=xU r
 cases rx
 rcases h with ⟨hq,q⟩ | ⟨hq,q⟩
 ·obtain ⟨its,r',pl,hz⟩:=I.list hq
  have hlen:=r'.length
  refine call_tuple_list pl.isList (λh' kp=>?_) (by simp only [aw] <;> omega)
  have I1:Inv X pins σ H { s with heap:=h' }:=I.kept (t':=s.toks) kp
  have I2:Inv X pins σ (upd H h'.objs.size (.tup ys)) { s with heap:=h'.push { cls:=.type "tuple",data:=.seq its.toArray } } :=
   I1.laid (t':=s.toks) (λb o e=>ah _ e) (ao _) (show qk X.prog X.w _ _ _ (.tup ys) from ⟨hz,its,r',IsTup.new _ _⟩)
  exact ⟨.ref h'.objs.size,_,I2,rfl,q _ (I1.hok.fresh (ao _))⟩
 ·obtain ⟨its,r',pl,hz⟩:=I.tuple hq
  exact call_tuple_same pl ⟨.ref p,H,I,rfl,q⟩
def tyV (K:aj) (T:String) (x:V) (H:Hp):Prop:=match x with
 | .str _=>T = "str"
 | .int _=>T = "int"
 | .ref p=>(T = "list" /\ ∃xs,SqL K H p xs)\/(T = "tuple" /\ ∃o,K.lookup p=some o/\o.cls = .type "tuple" /\ o.dict=none) \/
   (T = "dict" /\ ((∃kvs,H p=some (.dK kvs))\/∃kvs,H p=some (.dT kvs)))\/(T = "set" /\ ∃S n,H p=some (.set S n))
 | _=>False
theorem Vp {pins:List (Addr×Obj)}{σ:St}{H:Hp}{s:Shared}{T:String}{x:V}{v:ag}(I:Inv X pins σ H s) (r:jA x v) (ty:tyV X.K T x H) :
  s.TypeIs v T/\∀a,v = .ref a->∃ob,s.heap.get? a=some ob/\ob.dict=none:=by
 cases x with
 | str z =>
  obtain ⟨t,rfl⟩:=r
  cases (show T = "str" from ty)
  exact ⟨typeIs_str s z t,λ_ e=>nomatch e⟩
 | int i =>
  obtain ⟨t,rfl⟩:=r
  cases (show T = "int" from ty)
  exact ⟨typeIs_int s i t,λ_ e=>nomatch e⟩
 | ref p =>
  cases r
  rcases ty with ⟨rfl,xs,hq⟩ | ⟨rfl,o,hk,hc,hd⟩ | ⟨rfl,hk⟩ | ⟨rfl,S,n,hk⟩
  ·obtain ⟨its,_,pl,_⟩:=I.list hq
   refine ⟨pl.isList.typeIs,λa e=>?_⟩
   cases e
   obtain ⟨o,n,e,c,hd,_⟩:=pl
   exact ⟨o,e,hd⟩
  ·refine ⟨⟨o,I.kIn p o hk,hc⟩,λa e=>?_⟩
   cases e
   exact ⟨o,I.kIn _ o hk,hd⟩
  ·have z:∃o,s.heap.get? p=some o/\o.ExactDict:=by
    rcases hk with ⟨kvs,hk⟩ | ⟨kvs,hk⟩
    ·obtain ⟨_,_,_,_,o,_,_,e,ex,_⟩:=I.hok p _ hk
     exact ⟨o,e,ex⟩
    ·obtain ⟨_,_,_,_,o,_,_,e,ex,_⟩:=I.hok p _ hk
     exact ⟨o,e,ex⟩
   obtain ⟨o,e,ex⟩:=z
   refine ⟨⟨o,e,ex.1⟩,λa e2=>?_⟩
   cases e2
   exact ⟨o,e,ex.2.1⟩
  ·obtain ⟨o,_,_,_,e,ex,_⟩:=I.hok p _ hk
   refine ⟨⟨o,e,ex.1⟩,λa e2=>?_⟩
   cases e2
   exact ⟨o,e,ex.2.1⟩
 | _=>exact bu ty
def tBM (K:aj) (T:String) (r:V->List V->Hp->VK->Prop) (to:TE) (t:TA):TE:=λσ H Q=>to σ H λx H1=>tyV K T x H1/\t σ H1 λxs H2=>r x xs H2 Q
variable {o e:Expr}{es:List Expr}{to:TE}{t:TA}{name:Str}{apos cpos:Pos}{T id:String}{r:V->List V->Hp->VK->Prop}
theorem US (pa:PlainAttrs T) (slot:Slot T name id) (hty:pU (.builtin id)=pure (.type "method_descriptor")) (hm:MtR X id r) (ho:PE X o to) (ha:PA X (e::es) t)
  (hbase:eN o name X.env (eval o X.env)=eval o X.env:=by rfl)
  (hfew:((ck cpos (aH (e::es) X.env)).all (λx=>!x.1) && (iq cpos (ee [] X.env)).all (λx=>x.1.isSome)
   && decide ((e::es).length+([]:List lq).length+(if ([]:List lq).isEmpty then 0 else 1)<30))=true:=by rfl)
  (hline:(apos.endLine == cpos.line)=true:=by rfl) (hs:aH (e::es) X.env=(false,eval e X.env)::aH es X.env:=by rfl) (hplain:(ck cpos (aH es X.env)).any (·.1)=false:=by rfl) :
  PE X (.Call (.Attribute o name apos) (e::es) [] cpos) (tBM X.K T r to t):=by
 intro pins s σ H Q I h
 refine wpAny_Call_method_late hbase hfew hline rfl (thn (ho pins s σ H _ I h) λv s1 ⟨x,H1,I1,r1,ty,q1⟩=>?_)
 obtain ⟨h1,h2⟩:=Vp I1 r1 ty
 refine ⟨T,id,pa,slot,hty,h1,h2,?_⟩
 have hA:=ha cpos pins s1 σ H1 _ I1 q1
 rw [hs] at hA ⊢
 refine ly (by show (false || (ck cpos (aH es X.env)).any (·.1))=false;rw [hplain] <;> rfl) (fU ?_)
 exact thn hA λus s2 ⟨vs,H2,I2,r2,q2⟩=>hm pins s2 σ H2 x vs v us Q I2 r1 r2 q2
end
end L2
namespace L2
def MtM (X:Cx) (id:String) (r:V->List V->Hp->VK->Prop):Prop :=
 ∀(pins:List (Addr×Obj)) (s:Shared) (σ:St) (H:Hp) (x:V) (xs:List V) (v:ag) (us:List ag) (Q:VK),Inv X pins σ H s->jA x v->jx xs us->r x xs H Q ->
  ay (aC X.prog X.w) X.A (call (.builtin id) (v::us)) (EP X pins σ Q) X.xe s
theorem jx.one:∀{x:V}{us:List ag},jx [x] us->∃u,us=[u]/\jA x u
 | _,_,.cons r .nil=>⟨_,rfl,r⟩
theorem jx.dropLast {xs:List V}{us:List ag}(h:jx xs us):jx xs.dropLast us.dropLast:=by
 induction h with
 | nil=>exact .nil
 | cons r t ih =>
  cases t with
  | nil=>exact .nil
  | cons q t'=>exact .cons r ih
theorem jx.reverse {xs:List V}{us:List ag}(h:jx xs us):jx xs.reverse us.reverse:=by
 induction h with
 | nil=>exact .nil
 | cons r t ih=>rw [iJ,iJ];exact jx.append ih (.cons r .nil)
section
variable {X:Cx}{pins:List (Addr×Obj)}{σ:St}{H:Hp}{s:Shared}{l b:Addr}{xs ys zs:List V}
theorem Inv.lset {its its':List ag}{n:Nat}{f:Array ag->Array ag}{t':Nat}(I:Inv X pins σ H s) (hH:H l=some (.lst xs))
  (e:s.heap.get? l=some { cls:=.type "list",data:=.seq its.toArray n }) (hf:f its.toArray=its'.toArray) (hv:jx ys its') (hz:ys.length<=sizeLine) :
  Inv X pins σ (upd H l (.lst ys)) { s with heap:=s.heap.update l (aR f),toks:=t' }:=by
 have q:=PySem.IsL.update e f
 rw [hf] at q
 refine I.write (x:=l) (e:=l) (by rw [hH];exact trivial) (.inl rfl) (λb' u hb hu=>(bq s.heap (aR f) (c5 hb)).trans hu) ⟨_,q⟩ ?_
 exact ⟨hz,its',_,hv,q⟩
theorem Inv.lnew {its:List ag}{t':Nat}(I:Inv X pins σ H s) (hv:jx ys its) (hz:ys.length<=sizeLine) :
  Inv X pins σ (upd H s.heap.objs.size (.lst ys)) { s with heap:=s.heap.push { cls:=.type "list",data:=.seq its.toArray },toks:=t' } :=
 I.laid (λ_ _ q=>ah _ q) (ao _) ⟨hz,its,0,hv,az _ rfl⟩
theorem Inv.fresh (I:Inv X pins σ H s):H s.heap.objs.size=none:=I.hok.fresh (ao _)
theorem Inv.lstM (I:Inv X pins σ H s) (hH:H l=some (.lst xs)):xs.length<=sizeLine/\∃(its:List ag) (n:Nat),jx xs its/\xs.length=its.length/\s.heap.get? l=some { cls:=.type "list",data:=.seq its.toArray n }:=by
 obtain ⟨z,its,n,r,e⟩:=I.hok l _ hH
 exact ⟨z,its,n,r,r.length,e⟩
theorem ZX {n:Nat}(h:n<=sizeLine):eP n=false:=by
 unfold eP
 exact decide_eq_false ∅
end
section
variable {X:Cx}
def Yv:V->List V->Hp->VK->Prop:=λx vs H Q=>∃l xs y,x = .ref l/\vs=[y]/\H l=some (.lst xs)/\xs.length<sizeLine/\Q .non (upd H l (.lst (xs++[y])))
theorem qG:MtM X "list.append" Yv:=by
 intro pins s σ H x vs v us Q I rx rv h
 obtain ⟨l,xs,y,rfl,rfl,hH,hz,q⟩:=h
 cases rx
 obtain ⟨u,rfl,ru⟩:=rv.one
 obtain ⟨z,its,n,r,hl,e⟩:=I.lstM hH
 refine mI F.slot_list_append ⟨_,e,rfl⟩ F.entry_list_append (F.args_list_append_2 _ _) (PySem.list_append l its.toArray n u (by rw [aw];omega)) ⟨e,?_⟩
 refine ⟨.non,_,I.lset (its':=its++[u]) hH e (by simp) (r.append (.cons ru .nil)) ?_,rfl,q⟩
 rw [ax,aW]
 omega
def YO:V->List V->Hp->VK->Prop:=λx vs H Q=>∃l b xs zs,x = .ref l/\vs=[.ref b]/\H l=some (.lst xs)/\H b=some (.lst zs)/\xs.length+zs.length<=sizeLine/\Q .non (upd H l (.lst (xs++zs)))
theorem Ue:MtM X "list.extend" YO:=by
 intro pins s σ H x vs v us Q I rx rv h
 obtain ⟨l,b,xs,zs,rfl,rfl,hH,hB,hz,q⟩:=h
 cases rx
 obtain ⟨u,rfl,ru⟩:=rv.one
 cases ru
 obtain ⟨z,its,n,r,hl,e⟩:=I.lstM hH
 obtain ⟨z2,its2,n2,r2,hl2,e2⟩:=I.lstM hB
 have hsz:its.toArray.size+its2.toArray.size<=sizeLine:=by rw [aw,aw];omega
 have hlong:¬(!its.toArray.isEmpty && eP (its.toArray.size+its2.toArray.size))=true:=by
  rw [ZX hsz,Bool.and_false]
  exact aq
 refine mI F.slot_list_extend ⟨_,e,rfl⟩ F.entry_list_extend (F.args_list_extend_2 _ _)
  (AutoSeq1.list_extend_list_list_0 l its.toArray n b its2.toArray n2 hlong (by rw [aw];omega) ∅) ⟨e,e2,?_⟩
 refine ⟨.non,_,I.lset (its':=its++its2) hH e (by simp) (r.append r2) ?_,rfl,q⟩
 rw [ax]
 omega
def rCat:R2:=λx y H Q=>∃l b xs zs,x = .ref l/\y = .ref b/\H l=some (.lst xs)/\H b=some (.lst zs)/\xs.length+zs.length<=sizeLine/\∀p,H p=none->Q (.ref p) (upd H p (.lst (xs++zs)))
theorem VD:OpR X (fT .Add) rCat:=by
 intro pins s σ H x y v u Q I rx ry h
 obtain ⟨l,b,xs,zs,rfl,rfl,hH,hB,hz,q⟩:=h
 cases rx
 cases ry
 obtain ⟨z,its,n,r,hl,e⟩:=I.lstM hH
 obtain ⟨z2,its2,n2,r2,hl2,e2⟩:=I.lstM hB
 refine PySem.P.add_list e e2 ?_ (by rw [aw,aw];omega)
 have ea:its.toArray++its2.toArray=(its++its2).toArray:=by simp
 rw [ea]
 exact ⟨.ref _,_,I.lnew (t':=s.toks) (r.append r2) (by rw [ax];omega),rfl,q _ I.fresh⟩
end
section
variable {prog:Program}{w:aV}{A:ba}{E:ag->Shared->Prop}{s:Shared}
set_option maxRecDepth 100000 in
end
section
variable {X:Cx}
end
end L2
namespace Att
open PySem PySem.W PySem.Calls PyProof.Rows
theorem ul {P:oM}{h:Heap}:∀(ns:List Int) (vs:List ag),WellAll P h vs (ns.map WData.int)->cV vs ns:=by
 intro ns
 induction ns with
 | nil =>
  intro vs w
  rw [eI] at w
  cases w
  exact .nil
 | cons n ns ih =>
  intro vs w
  rw [aN] at w
  cases w with
  | cons a b =>
   cases a
   exact .cons _ _ (ih _ b)
theorem XA {l:OpenLaw}{n:Nat}(hn:l.most=some n) {P:oM}{h:Heap}{args:List WData}{vals:List ag}
  (hpre:l.row.toRowW.claim.pre args=true) (hwl:WellAll P h vals args) :
  ∃a vs ns,vals=[b0 a]/\args=[WData.list (ns.map WData.int)]/\h.get? a=some { cls:=.type "list",data:=.seq vs.toArray }/\cV vs ns/\ns.length<=n:=by
 have hsh:WShape.hasAll [] args [.list .int]=true:=(pre_splitW hpre).1
 have hc:l.pre.holds [] { args:=args }=true:=(pre_splitW hpre).2
 obtain ⟨d,r,rfl,h1,h2⟩:=hasAllW_cons hsh
 obtain rfl:=hasAllW_nil h2
 obtain ⟨xs,rfl,h3⟩:=hasW_list h1
 obtain ⟨ns,rfl⟩:=items_int h3
 have hlen:ns.length<=n:=by
  unfold OpenLaw.pre at hc
  have h4:(WTm.not (.lt (.lit (.int (n:Int))) (.len (.arg 0)))).holds [] { args:=[.list (ns.map .int)] }=true:=by
   have h4:=(holds_andW hc).1
   rw [hn] at h4
   exact h4
  have h5:=condW_of h4 (w_not (w_lt w_lit (w_len_list (w_arg rfl))))
  rw [af] at h5
  refine Nat.le_of_not_lt λq=>?_
  have q':(n:Int)<((ns.length:Nat):Int):=∅
  first
   | (rw [decide_eq_true q'] at h5;exact absurd h5 ⋯)
   | (simp at h5;omega)
 cases hwl with
 | cons w1 w2 =>
  cases w2
  cases w1 with
  | list ho hall=>exact ⟨_,_,ns,rfl,rfl,ho,ul ns _ hall,hlen⟩
theorem Xf (l:OpenLaw) (args:List WData):l.row.toRowW.claim.post args (.bool true) args=true :=
 postW_of (r:=l.row.toRowW) (X:=(true == true))
  (show WShape.has [] (.bool true) .bool=true by first | rfl | decide | simp [WShape.has,WShape.arms,WShape.armsAll])
  (show (WTm.eq .res (.lit (.bool true))).value [] { args:=args,res:=some (.bool true),after:=args }=some (.bool (true == true)) from w_eq_bool (w_res rfl) w_lit) rfl
theorem attach_call {l:OpenLaw}{n:Nat}{q:Program}{loose:List Str}{XP:(Str->Option ag)->Heap->Prop}{YP:aV->Heap->Prop}{d:DefRec}
  (hn:l.most=some n) (hdf:d.params.defaults=[])
  (call:∀(w:aV) (s₀ s₁:Shared) (mg mb:Str->Option ag) (fa:Addr) (o:Obj) (pm cd doc:ag) (a:Addr) (vs:List ag) (ns:List Int),
   Ground q loose [] XP w s₀ mg mb s₁.heap->YP w s₁.heap ->
   s₁.heap.get? fa=some o->o.data = .func (docDef d.name d.params d.body d.scope pm cd doc)->s₁.heap.CodeRec cd d.name->mg d.name=some (.ref fa) ->
   s₁.heap.get? a=some { cls:=.type "list",data:=.seq vs.toArray }->cV vs ns->ns.length<=n->s₁.gens = #[] ->
   cI (aC l.prog w) mi (.call (.ref fa) ⟨[.ref a],[]⟩) (λr s'=>r = .ok (.ret (.bool true))/\OldK s₁.heap s'.heap/\s'.os=s₁.os/\fO s'.gens) s₁) :
  WalkO q loose XP YP l.row.toRowW d [] (λf vs=>PySem.call f vs):=by
 intro w s₀ s₁ mg mb G Y fa o pm cd doc dV kV ho hd hcd hD hmg hg args vals as hpre hlay hrd hwl hlo
 obtain rfl:dV = .none:=Dflts.none hD hdf
 obtain rfl:kV = .none:=Dflts.noKw hD
 obtain ⟨a,vs,ns,rfl,rfl,hobj,hints,hlen⟩:=XA hn hpre hwl
 refine enter_call (dj (call w s₀ s₁ mg mb fa o pm cd doc a vs ns G Y ho (fd_plain hd) hcd hmg hobj hints hlen hg) λr s' hq=>?_)
 obtain ⟨rfl,h2,h3,h4⟩:=hq
 exact ⟨.inl ⟨.bool true,.bool true,[],rfl,λ_=>rfl,.bool true,Xf l _,λ_=>⟨fC,λ_ hm=>(nomatch hm)⟩⟩,h2,h3,h4⟩
section
variable {prog:Program}{w:aV}{A:ba}{E:ag->Shared->Prop}{s:Shared}{K:Frag}
def ledger (h:Heap) (L d:Addr):List (Addr×Obj):=(aO h.objs.size).filterMap λa=>if a=L\/a=d then none else (h.get? a).map λo=>(a,o)
end
end Att
namespace L2
theorem vN:∀{vs:List ag}{ns:List Int},cV vs ns->jx (ns.map V.int) vs
 | _,_,.nil=>.nil
 | _,_,.cons n t h=>.cons ⟨t,rfl⟩ (vN h)
end L2
namespace L2
end L2
namespace L2
def xH (s:Stmt) (j:Nat):Stmt:=match s with
 | .ClassDef _ _ _ body _ _ _ _ _ _ _=>body.getD j (.Pass ⟨0,0,0,0⟩)
 | _=>.Pass ⟨0,0,0,0⟩
def jL (s:Stmt):Arguments:=match s with
 | .FunctionDef _ a _ _ _ _ _ _ _ _=>a
 | _=>{ posonlyargs:=[],args:=[],vararg:=none,kwonlyargs:=[],kw_defaults:=[],kwarg:=none,defaults:=[] }
def jF (s:Stmt):List Stmt:=match s with
 | .FunctionDef _ _ b _ _ _ _ _ _ _=>b
 | _=>[]
def j8 (s:Stmt):Scope:=match s with
 | .FunctionDef _ _ _ _ _ _ sc _ _ _=>sc
 | _=>{ kind:=.function,names:=[],isGenerator:=false,isCoroutine:=false }
abbrev CX0:CXT:=λ_ _ _ _ _ _=>False
abbrev E0:XK:=λ_ _ _=>False
theorem Vc {X:Cx}:kz CX0 X E0:=λ_ _ _ _ _ _ _ h=>h.elim
structure Fun (K:aj) (x qual:Str) (st:Stmt) (f:Addr) (fd:FuncData):Prop where
 ex:∃(oc:ag) (od:Option Addr) (kV doc pm:ag) (an:Option Addr) (cdv ct:ag) (osl:Array (Option ag)),
  fd=bx x qual (jL st) (jF st) (j8 st) .none kV doc pm an cdv ct/\K.lookup f=some ⟨oc,od,.func fd,osl⟩/\cx K cdv qual=true
 kp:bJ K (.ref f)=true
section
variable {P:Program}{w:aV}{K:aj}{mg:Str->Option ag}{base:Heap}
theorem Fun.ok {x qual:Str}{st:Stmt}{f:Addr}{fd:FuncData}{N ps:List Str}{k:Nat}{sp:Sp}(F:Fun K x qual st f fd) (S:FnScope N ps (j8 st)) (len:∀vs H Q E,sp vs H Q E->vs.length=ps.length)
  (hbody:∀(cdv:ag) (A:ba) (outer:List Env) (s:Shared) (H:Hp) (vs:List V) (Q:VK) (E:XK),Room k (A.deeper (iL qual (j8 st) s.heap.objs.size f cdv))->sp vs H Q E ->
   ∃t,PSs (yI CX0 P w K mg base N qual (j8 st) f cdv A outer s H E).nox (jF st) t/\t { nx:=λ_ H'=>Q .non H',rt:=Q } (start N vs) H):FnOk P w K mg base CX0 (k+1) f fd ps sp:=by
 obtain ⟨oc,od,kV,doc,pm,an,cdv,ct,osl,rfl,lk,hcd⟩:=F.ex
 refine Zb lk hcd S len λA outer s H vs Q E hr hsp=>?_
 obtain ⟨t,h,q⟩:=hbody cdv A outer s H vs Q E hr hsp
 exact ⟨t,h.nox,q⟩
theorem Fun.binds {x qual:Str}{st:Stmt}{f:Addr}{fd:FuncData}{ps:List Str}(F:Fun K x qual st f fd)
  (h:∀(kV doc pm:ag) (an:Option Addr) (cdv ct:ag) (us:List ag),us.length=ps.length->cv (bx x qual (jL st) (jF st) (j8 st) .none kV doc pm an cdv ct) ⟨us,[]⟩=pure (ps.zip us)):zP K fd ps []:=by
 obtain ⟨oc,od,kV,doc,pm,an,cdv,ct,osl,rfl,lk,hcd⟩:=F.ex
 exact .all (h kV doc pm an cdv ct)
theorem yx {x qual:Str}{st:Stmt}{f:Addr}{oc:ag}{od an:Option Addr}{osl:Array (Option ag)}{kV doc pm cdv ct:ag}(l:K.lookup f=some ⟨oc,od,.func (bx x qual (jL st) (jF st) (j8 st) .none kV doc pm an cdv ct),osl⟩)
  (c:cx K cdv qual=true) (k:bJ K (.ref f)=true):Fun K x qual st f (bx x qual (jL st) (jF st) (j8 st) .none kV doc pm an cdv ct):=⟨⟨oc,od,kV,doc,pm,an,cdv,ct,osl,rfl,l,c⟩,k⟩
end
theorem jG {A:ba}{k:Nat}(hr:Room k A):A.units+1<cLine:=bZ (Nat.add_le_add_left (by decide:1<=64) _) hr.units
theorem jc {n:Nat}(h:n<=1000):n<sizeLine:=bZ h ⋯
section
variable {X:Cx}
theorem pv (i:Nat) {x:Str}{pos:Pos}(hN:X.N[i]? = some x:=by rfl) (hv:Vis X.env.scope x:=by first | exact aU rfl | exact lA (aU rfl) | exact lA (lA rfl)) (hd:(x == ("__debug__" : Str))=false:=by decide)
  (hcd:(x == ("__classdict__" : Str))=false:=by decide):PE X (.Name x pos) (Vy i):=Vw hN hv hd hcd
end
theorem UL {A B:Prop}(h:B):if false=true then A else B:=by
 rw [if_neg aq]
 exact h
theorem wz {A B:Prop}(h:A):if true=true then A else B:=by
 rw [if_pos rfl]
 exact h
def jm (H H':Hp):Prop:=∀b o,H b=some o->H' b=some o
theorem jm.refl (H:Hp):jm H H:=λ_ _ h=>h
theorem jm.trans {H H1 H2:Hp}(a:jm H H1) (b:jm H1 H2):jm H H2:=λc o h=>b c o (a c o h)
theorem jm.free {H H':Hp}(e:jm H H') {l:Addr}(h:H' l=Option.none):H l=Option.none:=by
 cases q:H l with
 | none=>rfl
 | some o =>
  rw [e l o q] at h
  cases h
end L2
section
namespace L2
theorem JM (env:Env) (f:Str×fA->List (Str×Addr)->Sem (ForInStep (List (Str×Addr))))
  (hf:∀n k r,f (n,k) r=if (k == aZ)=true then (pV env n >>= λa=>pure (bL ((n,a)::r))) else pure (bL r)) :
  ∀(names:List (Str×fA)) (acc:List (Str×Addr)),(∀x∈names,x.2 = .free->∃c,env.cells.lookup x.1=some c) ->
  ∃cl,rg names acc f=pure cl/\∀x,cl.lookup x=if (x,aZ)∈names then env.cells.lookup x else acc.lookup x:=by
 intro names
 induction names with
 | nil=>intro acc _;exact ⟨acc,rfl,λx=>by rw [if_neg (by simp)]⟩
 | cons y r ih =>
  intro acc h
  obtain ⟨n,k⟩:=y
  have hr:∀x∈r,x.2 = .free->∃c,env.cells.lookup x.1=some c:=λx hx=>h x (aD _ hx)
  by_cases hk:k = .free
  ·subst hk
   obtain ⟨c,hc⟩:=h (n,.free) aG rfl
   obtain ⟨cl,e,p⟩:=ih ((n,c)::acc) hr
   refine ⟨cl,?_,λx=>?_⟩
   ·rw [i4,hf,if_pos (by rfl)]
    have e1:pV env n=pure c:=by unfold pV;rw [hc]
    rw [e1]
    exact e
   ·rw [p x]
    by_cases hx:x=n
    ·subst hx
     rw [if_pos (aG),cp,beq_self_eq_true]
     by_cases hm:(x,aZ)∈r
     ·rw [if_pos hm]
     ·rw [if_neg hm];exact hc.symm
    ·have hb:(x == n)=false:=beq_eq_false_iff_ne.mpr hx
     rw [cp,hb]
     by_cases hm:(x,aZ)∈r
     ·rw [if_pos hm,if_pos (aD _ hm)]
     ·rw [if_neg hm,if_neg (by
       intro z
       rcases List.mem_cons.mp z with z | z
       ·exact hx (congrArg Prod.fst z)
       ·exact hm z)]
  ·obtain ⟨cl,e,p⟩:=ih acc hr
   have hb:(k == aZ)=false:=by simpa using hk
   refine ⟨cl,?_,λx=>?_⟩
   ·rw [i4,hf,hb,if_neg aq]
    exact e
   ·rw [p x]
    by_cases hm:(x,aZ)∈r
    ·rw [if_pos hm,if_pos (aD _ hm)]
    ·rw [if_neg hm,if_neg (by
      intro z
      rcases List.mem_cons.mp z with z | z
      ·exact hk (congrArg rh z).symm
      ·exact hm z)]
theorem yL {scope:Scope}{env:Env}(h:∀x∈scope.names,x.2 = .free->∃c,env.cells.lookup x.1=some c) :
  ∃cl,mJ scope env=pure cl/\∀x,cl.lookup x=if (x,aZ)∈scope.names then env.cells.lookup x else none:=by
 have hh:=JM env (λ(x:Str×fA) r=>match x with | (n,k)=>if (k == aZ)=true then (pV env n >>= λa=>pure (bL ((n,a)::r))) else pure (bL r)) (λ_ _ _=>rfl) scope.names [] h
 obtain ⟨cl,e,p⟩:=hh
 refine ⟨cl,?_,λx=>by rw [p x];rfl⟩
 unfold mJ
 have e':rg scope.names ([]:List (Str×Addr)) (λ(x:Str×fA) r=>match x with | (n,k)=>if (k == aZ)=true then (pV env n >>= λa=>pure (bL ((n,a)::r))) else pure (bL r))=(pure cl:Sem _):=e
 show (rg scope.names ([]:List (Str×Addr)) _ >>= λcs=>pure cs)=_
 first
  | (rw [e'];rfl)
  | (simp only [bind_pure];exact e')
structure CompSc (osc:Scope) (ON:List Str) (scope:Scope) (own:Nat) (N:List Str) (caps:List Nat):Prop where
 kind:scope.kind = .function
 nocell:∀y∈scope.names,y.2≠.cell
 loc:∀y∈scope.names,y.2 = .local->scope.names.lookup y.1=some .local
 fre:∀y∈scope.names,y.2 = .free->scope.names.lookup y.1=some .free/\(osc.names.lookup y.1=some .cell\/osc.names.lookup y.1=some .free)
 len:N.length=own+caps.length
 cap:∀p∈(N.drop own).zip caps,ON[p.2]? = some p.1/\(p.1,aZ)∈scope.names
def yr (own:Nat) (caps:List Nat) (σ:St):St:=cZ own none++caps.map λj=>(σ[j]?).getD none
def Cx.block (X:Cx) (scope:Scope) (cl:List (Str×Addr)) (C:Addr) (N:List Str) (s:Shared) (H:Hp) (ex:List Addr):Cx :=
 { X with N:=N,s₀:=s,H₀:=H,env:=p0 scope cl C X.env,outer:=X.stack,ex:=ex,fn:=λx=>decide (scope.names.lookup x=some .local),pn:=[],xe:=λ_ _=>False }
theorem zA {env:Env}:∀{names:List (Str×fA)}{x:Str}{k:fA},
  (names.map λ(n,k)=>if (k == aZ && env.scope.kind == .function && env.kindOf n == some .cell) then (n,fQ) else (n,k)).lookup x=some k ->
  ∃k',names.lookup x=some k'/\(k'=k\/(k' = .free/\k = .cell))
 | [],_,_,h=>by simp at h
 | (n,k0)::r,x,k,h=>by
  have ih:=@zA env r x k
  have h':dG x ((if (k0 == aZ && env.scope.kind == .function && env.kindOf n == some .cell)=true then (n,fQ) else (n,k0))::r.map λ(n,k)=>if (k == aZ && env.scope.kind == .function && env.kindOf n == some .cell) then (n,fQ) else (n,k))=some k:=h
  cases hx:x == n with
  | true =>
   by_cases hc:(k0 == aZ && env.scope.kind == .function && env.kindOf n == some .cell)=true
   ·rw [if_pos hc,cp,hx] at h'
    cases h'
    refine ⟨k0,by rw [cp,hx],.inr ⟨?_,rfl⟩⟩
    rw [bh,bh] at hc
    exact eq_of_beq hc.1.1
   ·rw [if_neg hc,cp,hx] at h'
    cases h'
    exact ⟨k0,by rw [cp,hx],.inl rfl⟩
  | false =>
   have h2:dG x (r.map λ(n,k)=>if (k == aZ && env.scope.kind == .function && env.kindOf n == some .cell) then (n,fQ) else (n,k))=some k:=by
    by_cases hc:(k0 == aZ && env.scope.kind == .function && env.kindOf n == some .cell)=true
    ·rw [if_pos hc,cp,hx] at h';exact h'
    ·rw [if_neg hc,cp,hx] at h';exact h'
   obtain ⟨k',e,d⟩:=ih h2
   exact ⟨k',by rw [cp,hx];exact e,d⟩
def kB (X:Cx) (ifs:List Expr) (t:TT):Prop :=
 ∀(pins:List (Addr×Obj)) (s:Shared) (σ:St) (H:Hp) (Q:Bool->Hp->Prop),Inv X pins σ H s->t σ H Q ->
  ay (aC X.prog X.w) X.A (rg ifs true λc r=>if r=true then do let ok <- isTrue c X.env (eval c X.env);pure (bL ok) else pure (bL r)) (TP X pins σ Q) X.xe s
def UA:TT:=λ_ H Q=>Q true H
theorem jv {X:Cx}:kB X [] UA:=λ_ _ _ H _ I h=>wpAny_tests_nil ⟨H,I,h⟩
theorem vv {X:Cx}{c:Expr}{t:TT}(h:PT X c t):kB X [c] t:=λpins s σ H Q I hw=>wpAny_tests_one (h pins s σ H Q I hw)
section
variable {prog:Program}{w:aV}{A:ba}{R:lW->Shared->Prop}{s:Shared}
theorem J4 {elt target iter:Expr}{ifs:List Expr}{scope:Scope}{pos:Pos}{it acc:ag}{env:Env}(I:Nat->Shared->Prop)
  (turn:∀n s,I n s->ay (aC prog w) A (fq it) (λr s₁=>match r with
   | none=>R (.ok .next) s₁
   | some v=>ay (aC prog w) A (cQ target it v) (λ_ s₂=>ay (aC prog w) A (fZ target env v) (λ_ s₃ =>
     ay (aC prog w) A (rg ifs true λc r=>if r=true then do let ok <- isTrue c env (eval c env);pure (bL ok) else pure (bL r)) (λok s₄ =>
      if ok=true then ay (aC prog w) A (eval elt env) (λx s₅ =>
       ay (aC prog w) A (call (.builtin "list.append") [acc,x]) (λ_ s₆=>∃m,m<n/\I m s₆) (λ_ _=>False) s₅) (λ_ _=>False) s₄
      else ∃m,m<n/\I m s₄) (λ_ _=>False) s₃) (λ_ _=>False) s₂) (λ_ _=>False) s₁) (λ_ _=>False) s)
  (n:Nat) (h:I n s) :
  cI (aC prog w) A (.compLoop (.ListComp elt [⟨target,iter,ifs,0⟩] scope pos) 0 it acc env) R s:=by
 refine n6 rfl I (λn s hI=>?_) n h
 show ay _ A ((n9 (.ListComp elt [⟨target,iter,ifs,0⟩] scope pos) 0 it acc env).onRaise (λx=>do ik x env;lK x)) _ _ s
 refine oo ?_
 rw [compTurn_list]
 refine ae (cH (ae (aX (turn n s hI) (λr s₁ h₁=>?_) λ_ _ h'=>h'.elim)))
 cases r with
 | none=>exact wpAny_pure h₁
 | some v =>
  refine ae (aX h₁ (λ_ s₂ h₂=>?_) λ_ _ h'=>h'.elim)
  refine ae (aX h₂ (λ_ s₃ h₃=>ae (aX h₃ (λok s₄ h₄=>?_) λ_ _ h'=>h'.elim)) λ_ _ h'=>h'.elim)
  cases ok with
  | false=>exact wpAny_pure ⟨rfl,h₄⟩
  | true =>
   exact ae (ae (aX h₄ (λx s₅ h₅=>ae (aX h₅ (λ_ s₆ h₆=>wpAny_pure (wpAny_pure ⟨rfl,h₆⟩)) λ_ _ h'=>h'.elim)) λ_ _ h'=>h'.elim))
end
section
variable {X:Cx}{pos:Pos}
def V3 (own:Nat) (caps:List Nat) (wi:TI) (g:TG) (ti:TT) (te:TE):TE:=λσ H Q=>wi σ H λJ H1=>∀acc,H1 acc=none ->
 ∃W:Nat->Nat->St->Hp->Prop,(∃m,W 0 m (yr own caps σ) (upd H1 acc (.lst [])))/\∀i m σ' H',W i m σ' H' ->
  (J.stop i H'/\Q (.ref acc) H') \/
  (J.go i H'/\∃NX:St->Hp->Prop,(∀σ2 H2,NX σ2 H2->∃m',m'<m/\W (i+1) m' σ2 H2) /\
   ∀x H2,J.yld i H' x H2->g x σ' H2 λσ3 H3=>ti σ3 H3 λok H4=>if ok=true then te σ3 H4 λv H5=>∃ys,H5 acc=some (.lst ys)/\ys.length<sizeLine/\NX σ3 (upd H5 acc (.lst (ys++[v]))) else NX σ3 H4)
theorem Zs {osc:Scope}{ON N:List Str}{scope:Scope}{own:Nat}{caps:List Nat}{cl:List (Str×Addr)}{C:Addr}{pins:List (Addr×Obj)}{σ:St}{H:Hp}{s:Shared}{fp:List Addr}
  (S:CompSc osc ON scope own N caps) (hsc:X.env.scope=osc) (hcl:∀x,cl.lookup x=if (x,aZ)∈scope.names then X.env.cells.lookup x else none)
  (I:Inv X pins σ H s) (hC:s.heap.objs.size<=C) (hf:∀b∈fp,vE X pins H b) (hfs:∀b∈fp,b<s.heap.objs.size):(X.block scope cl C N s H fp).Ok:=by
 have fromX:∀x c,cl.lookup x=some c->X.env.cells.lookup x=some c/\(x,aZ)∈scope.names:=λx c e=>by
  rw [hcl x] at e
  by_cases hm:(x,aZ)∈scope.names
  ·rw [if_pos hm] at e;exact ⟨e,hm⟩
  ·rw [if_neg hm] at e;cases e
 refine ⟨I.ok.mod,S.kind,I.ok.glob,I.ok.blt,hC,λx y c h1 h2=>I.ok.inj x y c (fromX x c h1).1 (fromX y c h2).1,λx hx=>?_,λx c h1 h2=>?_,I.ok.hd,I.ok.frames,.inl rfl,λb hb=>?_,I.bs,aF I.ok.bsz I.sz,λb o e hb=>?_,λb hb hb2=>?_,I.stack,I.stkFree⟩
 ·-- has
  have key:∀k,(k=fQ\/k=aZ)->(relabel scope X.env).names.lookup x=some k->∃c,cl.lookup x=some c:=λk hk e=>by
   obtain ⟨k',e',d⟩:=zA (env:=X.env) e
   have hmem:=cS e'
   have hfree:k' = .free:=by
    rcases d with d | d
    ·subst d
     rcases hk with z | z
     ·exact absurd z (S.nocell _ hmem)
     ·exact z
    ·exact d.1
   subst hfree
   obtain ⟨_,hk2⟩:=S.fre _ hmem rfl
   obtain ⟨c,hc⟩:=I.ok.has x (by unfold pe;rw [hsc];exact hk2)
   exact ⟨c,by rw [hcl x,if_pos hmem];exact hc⟩
  rcases hx with z | z
  ·exact key _ (.inl rfl) z
  ·exact key _ (.inr rfl) z
 ·-- cab
  have h1':scope.names.lookup x=some .local:=of_decide_eq_true h1
  have hm:=(fromX x c h2).2
  have:=(S.fre _ hm rfl).1
  rw [h1'] at this
  cases this
 ·refine ⟨aA (aK (hfs b hb) hC),λx c e=>(hf b hb).2.2.2.2.1 x c (fromX x c e).1⟩
 ·rcases (hf b hb).2.2.2.1 with z | z
  ·exact I.ok.noex b o e z
  ·exact absurd (aK (ar e) (aF I.ok.bsz z)) (c3 _)
 ·rcases List.mem_cons.mp (I.stkSub b hb2) with z | z
  ·exact (hf b hb).2.1 z
  ·exact (hf b hb).2.2.1 z
theorem vY {osc:Scope}{ON N:List Str}{scope:Scope}{own:Nat}{caps:List Nat}{cl:List (Str×Addr)}{C D:Addr}{pins:List (Addr×Obj)}{σ:St}{H:Hp}{s:Shared}{h1:Heap}{fp:List Addr}
  (S:CompSc osc ON scope own N caps) (hsc:X.env.scope=osc) (hN:X.N=ON) (hcl:∀x,cl.lookup x=if (x,aZ)∈scope.names then X.env.cells.lookup x else none)
  (I:Inv X pins σ H s) (hf:∀b∈fp,vE X pins H b) (hfs:∀b∈fp,b<s.heap.objs.size) (hD:D=s.heap.objs.size) (hC:C=s.heap.objs.size+1)
  (k:∀b o,s.heap.get? b=some o->h1.get? b=some o) (eD:h1.get? D=some { cls:=.type "list",data:=.seq #[] }) (hn:h1.Ns C λ_=>none) (t':Nat) :
  Inv (X.block scope cl C N s H fp) [] (yr own caps σ) (upd H D (.lst [])) { s with heap:=h1,toks:=t' }:=by
 subst hD
 subst hC
 have hCs:s.heap.objs.size<=s.heap.objs.size+1:=fe _
 have ok:=Zs (C:=s.heap.objs.size+1) S hsc hcl I hCs hf hfs
 have fromX:∀x c,cl.lookup x=some c->X.env.cells.lookup x=some c/\(x,aZ)∈scope.names:=λx c e=>by
  rw [hcl x] at e
  by_cases hm:(x,aZ)∈scope.names
  ·rw [if_pos hm] at e;exact ⟨e,hm⟩
  ·rw [if_neg hm] at e;cases e
 have fr:∀a,s.heap.objs.size<=a->H a=none:=λa ha=>I.hok.fresh ha
 have newD:qk X.prog X.w (upd H s.heap.objs.size (.lst [])) h1 s.heap.objs.size (.lst []):=⟨aJ _,[],0,.nil,eD⟩
 have cellK:∀x c,X.env.cells.lookup x=some c->∀v,s.heap.IsCell c v->h1.IsCell c v:=λx c _ v ⟨o,ho,hd⟩=>⟨o,k c o ho,hd⟩
 refine ⟨ok,rfl,I.bare,Un.laid k (ao _) (fr _ (ao _)),⟨_,hn,λi x v e1 e2 e3=>?_⟩,λx c e=>?_,?_,λx c e=>?_,λp hp=>absurd (show p∈([]:List (Addr×Obj)) from hp) (by simp),I.hok.laid k (ao _) newD,?_⟩
 ·-- the captured names
  have e1':N[i]? = some x:=e1
  have hi:own<=i:=by
   by_cases hi:own<=i
   ·exact hi
   ·unfold yr at e2
    rw [cD (by simp;omega),iV] at e2
    split at e2 <;> cases e2
  obtain ⟨j',rfl⟩:∃j',i=own+j':=⟨i-own,∅⟩
  have e2':(caps.map λj=>(σ[j]?).getD none)[j']? = some (some v):=by
   unfold yr at e2
   rw [cw (by simp)] at e2
   simpa using e2
  rw [au] at e2'
  cases hj:caps[j']? with
  | none=>rw [hj] at e2';cases e2'
  | some j =>
   rw [hj] at e2'
   have e3':(σ[j]?).getD none=some v:=aQ e2'
   have e4:σ[j]? = some (some v):=by
    cases q:σ[j]? with
    | none=>rw [q] at e3';cases e3'
    | some z=>rw [q] at e3';exact congrArg some e3'
   have hz:(x,j)∈(N.drop own).zip caps:=by
    refine av (i:=j') ?_
    rw [List.getElem?_zip_eq_some]
    exact ⟨by rw [List.getElem?_drop];exact e1',hj⟩
   obtain ⟨c1,c2⟩:=S.cap _ hz
   obtain ⟨_,hk⟩:=S.fre _ c2 rfl
   have hkX:X.env.kindOf x=some .cell\/X.env.kindOf x=some .free:=by unfold pe;rw [hsc];exact hk
   obtain ⟨m,hm,hl⟩:=I.loc
   obtain ⟨u,ru,l⟩:=hl j x v (by rw [hN];exact c1) e4 (by
    rcases hkX with z | z
    ·exact .inr (.inl z)
    ·exact .inr (.inr z))
   refine ⟨u,ru,?_⟩
   rcases l with ⟨l1,_⟩ | ⟨_,c,lc,lv⟩
   ·rcases hkX with z | z
    ·rw [z] at l1;cases l1
    ·rw [z] at l1;cases l1
   ·refine .inr ⟨?_,c,by show cl.lookup x=some c;rw [hcl x,if_pos c2];exact lc,cellK x c lc _ lv⟩
    rcases e3 with z | z
    ·obtain ⟨k',e',d⟩:=zA (env:=X.env) z
     have:=(S.fre _ c2 rfl).1
     rw [e'] at this
     cases this
     rcases d with d | d
     ·cases d
     ·cases d.2
    ·exact z
 ·obtain ⟨v,z⟩:=I.cell x c (fromX x c e).1
  exact ⟨v,cellK x c (fromX x c e).1 v z⟩
 ·show upd H s.heap.objs.size (.lst []) (s.heap.objs.size+1)=none
  rw [j5 (cq (dw _))]
  exact fr _ hCs
 ·have e':=(fromX x c e).1
  obtain ⟨v,z⟩:=I.cell x c e'
  rw [j5 (aA z.lt)]
  exact I.freeC x c e'
 ·unfold yr
  show _=N.length
  rw [ax,bD,af,S.len]
structure BlockAt (X:Cx) (pins:List (Addr×Obj)) (H:Hp) (C:Addr):Prop where
 free:H C=none
 loc:C≠X.env.locals
 new:X.s₀.heap.objs.size<=C
 cell:∀x c,X.env.cells.lookup x=some c->c≠C
 pin:∀p∈X.pn++pins,p.1≠C
theorem BlockAt.gone {pins:List (Addr×Obj)}{σ:St}{H:Hp}{C:Addr}{s:Shared}{h':Heap}(B:BlockAt X pins H C) (I:Inv X pins σ H s) (hs:dJ C s.heap h'):Inv X pins σ H { s with heap:=h' } :=
 I.turned (t':=s.toks) (λb o hb e=>(hs.2 b hb).trans e) B.free B.loc (.inr B.new) B.cell B.pin
theorem J6 {osc:Scope}{ON N:List Str}{scope:Scope}{own:Nat}{caps:List Nat}{cl:List (Str×Addr)}{tg elt iter:Expr}{ifs:List Expr}{g:TG}{ti:TT}{te:TE}{pins:List (Addr×Obj)}{σ:St}{H:Hp}{s:Shared}{fp:List Addr}{it:Addr}
  {tn:Nat->Heap->Prop} {J:It} {Q:VK} {RR:ag->Addr->lW->Shared->Prop} {E:ag->Shared->Prop}
  (hc:X.calm=true) (S:CompSc osc ON scope own N caps) (hsc:X.env.scope=osc) (hN:X.N=ON) (hcl:∀x,cl.lookup x=if (x,aZ)∈scope.names then X.env.cells.lookup x else none)
  (hg:∀cl C s H ex,PG (X.block scope cl C N s H ex) tg g) (hif:∀cl C s H ex,kB (X.block scope cl C N s H ex) ifs ti) (he:∀cl C s H ex,PE (X.block scope cl C N s H ex) elt te)
  (I:Inv X pins σ H s) (T:Turn X.prog X.w X.K tg J fp it tn) (st:tn 0 s.heap) (hf:∀b∈fp,vE X pins H b)
  (hw:∀acc,H acc=none->∃W:Nat->Nat->St->Hp->Prop,(∃m,W 0 m (yr own caps σ) (upd H acc (.lst [])))/\∀i m σ' H',W i m σ' H' ->
   (J.stop i H'/\Q (.ref acc) H')\/(J.go i H'/\∃NX:St->Hp->Prop,(∀σ2 H2,NX σ2 H2->∃m',m'<m/\W (i+1) m' σ2 H2) /\
    ∀x H2,J.yld i H' x H2->g x σ' H2 λσ3 H3=>ti σ3 H3 λok H4=>if ok=true then te σ3 H4 λv H5=>∃ys,H5 acc=some (.lst ys)/\ys.length<sizeLine/\NX σ3 (upd H5 acc (.lst (ys++[v]))) else NX σ3 H4))
  (fin:∀(D C:Addr) (H':Hp) (s':Shared),Inv X pins σ H' s'->BlockAt X pins H' C->(∃m,s'.heap.Ns C m)->Q (.ref D) H'->RR (.ref D) C (.ok .next) s') :
  ay (aC X.prog X.w) X.A (oJ []) (λacc s₃=>ay (aC X.prog X.w) X.A (pf scope X.env.globals cl [] X.env.qual none .none (some X.env)) (λcenv s₄ =>
   cI (aC X.prog X.w) X.A (.compStart (.ListComp elt [⟨tg,iter,ifs,0⟩] scope pos) 0 (.ref it) acc { cenv with scope:=relabel scope X.env }) (RR acc cenv.locals) s₄) E s₃) E s:=by
 have hfs:∀b∈fp,b<s.heap.objs.size:=λb hb=>by
  obtain ⟨o,e,_⟩:=T.obj _ _ st b hb
  exact ar e
 refine bV (lZ S.nocell (by intro y hy;simp at hy) (λh₁ hns₁ hsb₁=>?_) S.kind)
 dsimp only at hns₁ hsb₁ ⊢
 generalize hH2:s.heap.push { cls:=.type "list",dict:=none,data:=.seq ([]:List ag).toArray }=H2 at hns₁ hsb₁ ⊢
 have hCsz:H2.objs.size=s.heap.objs.size+1:=by rw [<- hH2,bK]
 have old:∀b o,s.heap.get? b=some o->h₁.get? b=some o:=λb o e=>hsb₁.extBut b o (aA (by rw [hCsz];exact bC (ar e))) (ah _ (hH2 ▸ ah _ e))
 have eD:h₁.get? s.heap.objs.size=some { cls:=.type "list",data:=.seq #[] }:=hsb₁.extBut _ _ (aA ∅) (ah _ (hH2 ▸ az _ rfl))
 have hDn:H s.heap.objs.size=none:=I.hok.fresh (ao _)
 obtain ⟨W,⟨m0,w0⟩,turn⟩:=hw s.heap.objs.size hDn
 have hns:h₁.Ns H2.objs.size λ_=>none:=hns₁
 have I1:Inv (X.block scope cl H2.objs.size N s H fp) [] (yr own caps σ) (upd H s.heap.objs.size (.lst [])) { s with heap:=h₁,toks:=s.toks+([]:List (Str×ag)).length } :=
  vY S hsc hN hcl I hf hfs rfl hCsz old eD hns _
 have st1:tn 0 h₁:=T.keep 0 _ _ st λb _ o e=>old b o e
 have fpB:∀{H':Hp},(∀b∈fp,H' b=none)->∀b∈fp,vE (X.block scope cl H2.objs.size N s H fp) [] H' b:=λ{H'} hn b hb=>by
  have ok:=I1.ok
  exact ⟨hn b hb,(ok.exf b hb).1,ok.exfs b hb,.inl hb,(ok.exf b hb).2,λp hp=>absurd (show p∈([]:List (Addr×Obj)) from hp) (by simp)⟩
 have back:∀{σ':St} {H':Hp} {s':Shared},Inv (X.block scope cl H2.objs.size N s H fp) [] σ' H' s'->Q (.ref s.heap.objs.size) H'->RR (.ref s.heap.objs.size) H2.objs.size (.ok .next) s':=λ{σ' H' s'} J1 q=>by
  have J2:Inv X pins σ H' s':=I.call' (ch:=fp) J1.os J1.base J1.hok J1.bare λb hb=>⟨(hf b hb).2.2.2.1,(hf b hb).2.1,(hf b hb).2.2.2.2.1,(hf b hb).2.2.2.2.2⟩
  obtain ⟨m,hm,_⟩:=J1.loc
  refine fin _ _ H' s' J2 ⟨J1.free,cq (aK I.lt ∅),aF I.sz ∅,λx c e z=>?_,λp hp z=>?_⟩ ⟨m,hm⟩ q
  ·obtain ⟨v,y⟩:=I.cell x c e
   have h1:H2.objs.size<s.heap.objs.size:=z ▸ y.lt
   exact absurd h1 ∅
  ·have h1:H2.objs.size<s.heap.objs.size:=z ▸ ar (I.pin p hp).1
   exact absurd h1 ∅
 have loop:∀s₃:Shared,s₃={ s with heap:=h₁,toks:=s.toks+([]:List (Str×ag)).length } ->
   cI (aC X.prog X.w) X.A (.compLoop (.ListComp elt [⟨tg,iter,ifs,0⟩] scope pos) 0 (.ref it) (.ref s.heap.objs.size) (p0 scope cl H2.objs.size X.env)) (RR (.ref s.heap.objs.size) H2.objs.size) s₃:=by
  rintro s₃ rfl
  refine J4 (λn s'=>∃i σ' H',Inv (X.block scope cl H2.objs.size N s H fp) [] σ' H' s'/\tn i s'.heap/\(∀b∈fp,H' b=none)/\W i n σ' H') ?_ m0
   ⟨0,_,_,I1,st1,λb hb=>by rw [j5 (aA (hfs b hb))];exact (hf b hb).1,w0⟩
  rintro n s3 ⟨i,σ3,H3,I3,st3,fr3,w3⟩
  rcases turn i n σ3 H3 w3 with ⟨stop,qn⟩ | ⟨go,NX,hNX,step⟩
  ·refine thn (T.done (X.block scope cl H2.objs.size N s H fp) rfl rfl rfl hc i [] s3 σ3 H3 _ I3 (fpB fr3) st3 stop) λr s4 ⟨hr,I4⟩=>?_
   subst hr
   exact back I4 qn
  ·refine thn (T.item (X.block scope cl H2.objs.size N s H fp) rfl rfl rfl hc i [] s3 σ3 H3 _ I3 (fpB fr3) st3 go) λr s4 ⟨u,hr,h4⟩=>?_
   subst hr
   refine thn h4 λ_ s5 ⟨x,H5,I5,r5,y5,st5,fr5⟩=>?_
   have I5':=I5.pinned (fpB fr5) (T.obj _ _ st5)
   refine thn (hg cl H2.objs.size s H fp _ s5 σ3 H5 x u _ I5' r5 (step x H5 y5)) λ_ s6 ⟨σ6,H6,I6,q6⟩=>?_
   refine thn (hif cl H2.objs.size s H fp _ s6 σ6 H6 _ I6 q6) λok s7 ⟨H7,I7,q7⟩=>?_
   have again:∀{s8:Shared} {σ8:St} {H8:Hp},Inv (X.block scope cl H2.objs.size N s H fp) ([]++xP fp s5.heap) σ8 H8 s8->NX σ8 H8->∃m,m<n/\∃i σ' H',Inv (X.block scope cl H2.objs.size N s H fp) [] σ' H' s8/\tn i s8.heap/\(∀b∈fp,H' b=none)/\W i m σ' H':=λ{s8 σ8 H8} I8 n8=>by
    obtain ⟨m',hm,w8⟩:=hNX σ8 H8 n8
    refine ⟨m',hm,i+1,σ8,H8,I8.unpinned,T.keep _ _ _ st5 λb hb o e=>(I8.pin (b,o) (aE _ (aE _ (qx hb e)))).1,λb hb=>?_,w8⟩
    obtain ⟨o,e,d⟩:=T.obj _ _ st5 b hb
    exact (I8.pin (b,o) (aE _ (aE _ (qx hb e)))).2.1
   cases ok with
   | false =>
    rw [if_neg aq] at q7 ⊢
    exact again I7 q7
   | true =>
    rw [if_pos rfl] at q7 ⊢
    refine thn (he cl H2.objs.size s H fp _ s7 σ6 H7 _ I7 q7) λv s8 ⟨y,H8,I8,r8,ys,e8,z8,q8⟩=>?_
    refine thn (qG _ s8 σ6 H8 (.ref s.heap.objs.size) [y] _ [v] (λ_ H9=>NX σ6 H9) I8 rfl (.cons r8 .nil) ⟨_,ys,y,rfl,rfl,e8,z8,q8⟩) λ_ s9 ⟨_,H9,I9,_,q9⟩=>?_
    exact again I9 q9
 exact lB (loop _ rfl) (T.self _ 0 _ _ _ st1 (loop _ rfl))
theorem JY {osc:Scope}{ON N:List Str}{scope:Scope}{own:Nat}{caps:List Nat}{pins:List (Addr×Obj)}{σ:St}{H:Hp}{s:Shared}(S:CompSc osc ON scope own N caps) (hsc:X.env.scope=osc) (I:Inv X pins σ H s) :
  ∀x∈scope.names,x.2 = .free->∃c,X.env.cells.lookup x.1=some c:=λx hx hk=>I.ok.has x.1 (by unfold pe;rw [hsc];exact (S.fre x hx hk).2)
theorem jN {osc:Scope}{ON N:List Str}{scope:Scope}{own:Nat}{caps:List Nat}{tg elt iter:Expr}{ifs:List Expr}{wi:TI}{g:TG}{ti:TT}{te:TE}(S:CompSc osc ON scope own N caps)
  (hc:X.calm=true) (hsc:X.env.scope=osc) (hN:X.N=ON) (hi:PI X tg iter wi)
  (hg:∀cl C s H ex,PG (X.block scope cl C N s H ex) tg g) (hif:∀cl C s H ex,kB (X.block scope cl C N s H ex) ifs ti) (he:∀cl C s H ex,PE (X.block scope cl C N s H ex) elt te)
  (hs:∀x,cu iter X.env x=pure x:=by intro _;rfl):PE X (.ListComp elt [⟨tg,iter,ifs,0⟩] scope pos) (V3 own caps wi g ti te):=by
 intro pins s σ H Q I h
 obtain ⟨cl,hclos,hcl⟩:=yL (JY S hsc I)
 rw [pO]
 refine eQ (use:=none) rfl hs hclos S.kind S.loc (thn (hi pins s σ H _ I h) λv s1 h1=>thn h1 λitv s2 h2=>?_)
 obtain ⟨it,fp,tn,J,H2,e,I2,T,st2,f2,hw⟩:=h2
 subst e
 refine J6 (RR:=λacc C=>rm (aC X.prog X.w) X.A X.xe none (EP X pins σ Q) acc C) hc S hsc hN hcl hg hif he I2 T st2 f2 hw λD C H' s' J1 B ⟨m,hm⟩ q=>?_
 exact ⟨m,hm,λh' hs'=>⟨.ref D,H',B.gone J1 hs',rfl,q⟩⟩
theorem ym {osc:Scope}{ON N:List Str}{scope:Scope}{own:Nat}{caps:List Nat}{tg elt iter:Expr}{ifs:List Expr}{wi:TI}{g:TG}{ti:TT}{te:TE}{j:Nat}{y:Str}{py spos:Pos}(S:CompSc osc ON scope own N caps)
  (hnd:X.N.Nodup) (hj:X.N[j]? = some y) (hy:Loc X.env.scope y)
  (hc:X.calm=true) (hsc:X.env.scope=osc) (hN:X.N=ON) (hi:PI X tg iter wi)
  (hg:∀cl C s H ex,PG (X.block scope cl C N s H ex) tg g) (hif:∀cl C s H ex,kB (X.block scope cl C N s H ex) ifs ti) (he:∀cl C s H ex,PE (X.block scope cl C N s H ex) elt te)
  (hsw:ij (.ListComp elt [⟨tg,iter,ifs,0⟩] scope pos) (some (.Name y py)) spos.line X.env=pure true:=by rfl)
  (hf:X.fn y=true\/X.env.scope.names.lookup y=some .local:=by first | exact .inl rfl | exact .inr rfl | assumption)
  (hs:∀x,cu iter X.env x=pure x:=by intro _;rfl):PS X (.Assign [.Name y py] (.ListComp elt [⟨tg,iter,ifs,0⟩] scope pos) spos) (Yt (V3 own caps wi g ti te) (wH j)):=by
 intro pins s σ H D0 I h
 obtain ⟨cl,hclos,hcl⟩:=yL (JY S hsc I)
 rw [exec_Assign_Name_used _ _ _ _ hsw]
 refine ae (cH (ae ?_))
 show ay _ X.A (do let _ <- comprehension (.ListComp elt [⟨tg,iter,ifs,0⟩] scope pos) scope X.env _ (oJ []) false (eval iter X.env) (some (fZ (.Name y py) X.env))) _ _ s
 refine ae (aX (eQ (use:=some (fZ (.Name y py) X.env)) (Q:=λ_ s'=>SP X pins D0 .next s') rfl hs hclos S.kind S.loc
  (thn (hi pins s σ H _ I h) λv s1 h1=>thn h1 λitv s2 h2=>?_)) (λ_ s' hq=>wpAny_pure (wpAny_pure hq)) λ_ _ e=>e)
 obtain ⟨it,fp,tn,J,H2,e,I2,T,st2,f2,hw⟩:=h2
 subst e
 refine J6 (Q:=λv H'=>D0.nx (σ.set j (some v)) H') (RR:=λacc C=>rm (aC X.prog X.w) X.A X.xe (some (fZ (.Name y py) X.env)) (λ_ s'=>SP X pins D0 .next s') acc C) hc S hsc hN hcl hg hif he I2 T st2 f2 hw λD C H' s' J1 B ⟨m,hm⟩ q=>?_
 show ay _ X.A (fZ (.Name y py) X.env (.ref D)) _ _ s'
 refine mU (wV (v:=V.ref D) J1 hnd hj hy rfl (λs2 J2 ⟨a,hsame,ha⟩=>?_) hf)
 have hCa:C≠a:=by
  rcases ha with z | z
  ·rw [z];exact B.loc
  ·exact λz2=>B.cell y a z z2.symm
 exact ⟨m,hm.sameBut hsame hCa,λh' hs'=>⟨_,H',B.gone J2 hs',q⟩⟩
end
theorem jW {K:aj}{a acc:Addr}{xs:List V}{g:TG}{ti:TT}{te:TE}{R:Hp->Prop}{σ:St}{H:Hp}(Pv:Nat->St->Hp->Prop) (h0:Pv 0 σ H) (hl:∀i σ H,i<=xs.length->Pv i σ H->SqL K H a xs)
  (hs:∀i x σ H,xs[i]? = some x->Pv i σ H->g x σ H λσ3 H3=>ti σ3 H3 λok H4=>if ok=true then te σ3 H4 λv H5=>∃ys,H5 acc=some (.lst ys)/\ys.length<sizeLine/\Pv (i+1) σ3 (upd H5 acc (.lst (ys++[v]))) else Pv (i+1) σ3 H4)
  (hd:∀σ H,Pv xs.length σ H->R H) :
  ∃W:Nat->Nat->St->Hp->Prop,(∃m,W 0 m σ H)/\∀i m σ' H',W i m σ' H' ->
   ((Itl K a).stop i H'/\R H')\/((Itl K a).go i H'/\∃NX:St->Hp->Prop,(∀σ2 H2,NX σ2 H2->∃m',m'<m/\W (i+1) m' σ2 H2) /\
    ∀x H2,(Itl K a).yld i H' x H2->g x σ' H2 λσ3 H3=>ti σ3 H3 λok H4=>if ok=true then te σ3 H4 λv H5=>∃ys,H5 acc=some (.lst ys)/\ys.length<sizeLine/\NX σ3 (upd H5 acc (.lst (ys++[v]))) else NX σ3 H4):=by
 refine ⟨λi m σ H=>m=xs.length-i/\i<=xs.length/\Pv i σ H,⟨xs.length,by simp,aJ _,h0⟩,?_⟩
 rintro i m σ H ⟨rfl,hi,p⟩
 have q:=hl i σ H hi p
 by_cases hlt:i<xs.length
 ·refine .inr ⟨⟨xs,xs[i],q,by simp [hlt]⟩,Pv (i+1),λσ' H' p'=>⟨xs.length-(i+1),∅,rfl,hlt,p'⟩,λx H' y=>?_⟩
  obtain ⟨e,y⟩:=y
  subst e
  exact hs i x σ _ (y xs q) p
 ·have e:i=xs.length:=∅
  subst e
  exact .inl ⟨⟨xs,q,ao _⟩,hd σ H p⟩
theorem gU {K:aj}{a acc:Addr}{xs:List V}{g:TG}{ti:TT}{te:TE}{R:Hp->Prop}{σ:St}{H:Hp}(Pv:Nat->St->Hp->Prop) (h0:Pv 0 σ H) (hl:∀i σ H,i<=xs.length->Pv i σ H->SqT K H a xs)
  (hs:∀i x σ H,xs[i]? = some x->Pv i σ H->g x σ H λσ3 H3=>ti σ3 H3 λok H4=>if ok=true then te σ3 H4 λv H5=>∃ys,H5 acc=some (.lst ys)/\ys.length<sizeLine/\Pv (i+1) σ3 (upd H5 acc (.lst (ys++[v]))) else Pv (i+1) σ3 H4)
  (hd:∀σ H,Pv xs.length σ H->R H) :
  ∃W:Nat->Nat->St->Hp->Prop,(∃m,W 0 m σ H)/\∀i m σ' H',W i m σ' H' ->
   ((Itt K a).stop i H'/\R H')\/((Itt K a).go i H'/\∃NX:St->Hp->Prop,(∀σ2 H2,NX σ2 H2->∃m',m'<m/\W (i+1) m' σ2 H2) /\
    ∀x H2,(Itt K a).yld i H' x H2->g x σ' H2 λσ3 H3=>ti σ3 H3 λok H4=>if ok=true then te σ3 H4 λv H5=>∃ys,H5 acc=some (.lst ys)/\ys.length<sizeLine/\NX σ3 (upd H5 acc (.lst (ys++[v]))) else NX σ3 H4):=by
 refine ⟨λi m σ H=>m=xs.length-i/\i<=xs.length/\Pv i σ H,⟨xs.length,by simp,aJ _,h0⟩,?_⟩
 rintro i m σ H ⟨rfl,hi,p⟩
 have q:=hl i σ H hi p
 by_cases hlt:i<xs.length
 ·refine .inr ⟨⟨xs,xs[i],q,by simp [hlt]⟩,Pv (i+1),λσ' H' p'=>⟨xs.length-(i+1),∅,rfl,hlt,p'⟩,λx H' y=>?_⟩
  obtain ⟨e,y⟩:=y
  subst e
  exact hs i x σ _ (y xs q) p
 ·have e:i=xs.length:=∅
  subst e
  exact .inl ⟨⟨xs,q,ao _⟩,hd σ H p⟩
theorem qw {lo:Int}{n:Nat}{acc:Addr}{g:TG}{ti:TT}{te:TE}{R:Hp->Prop}{σ:St}{H:Hp}(Pv:Nat->St->Hp->Prop) (h0:Pv 0 σ H)
  (hs:∀i σ H,i<n->Pv i σ H->g (.int (lo+i)) σ H λσ3 H3=>ti σ3 H3 λok H4=>if ok=true then te σ3 H4 λv H5=>∃ys,H5 acc=some (.lst ys)/\ys.length<sizeLine/\Pv (i+1) σ3 (upd H5 acc (.lst (ys++[v]))) else Pv (i+1) σ3 H4)
  (hd:∀σ H,Pv n σ H->R H) :
  ∃W:Nat->Nat->St->Hp->Prop,(∃m,W 0 m σ H)/\∀i m σ' H',W i m σ' H' ->
   ((Itr lo n).stop i H'/\R H')\/((Itr lo n).go i H'/\∃NX:St->Hp->Prop,(∀σ2 H2,NX σ2 H2->∃m',m'<m/\W (i+1) m' σ2 H2) /\
    ∀x H2,(Itr lo n).yld i H' x H2->g x σ' H2 λσ3 H3=>ti σ3 H3 λok H4=>if ok=true then te σ3 H4 λv H5=>∃ys,H5 acc=some (.lst ys)/\ys.length<sizeLine/\NX σ3 (upd H5 acc (.lst (ys++[v]))) else NX σ3 H4):=by
 refine ⟨λi m σ H=>m=n-i/\i<=n/\Pv i σ H,⟨n,by simp,aJ _,h0⟩,?_⟩
 rintro i m σ H ⟨rfl,hi,p⟩
 by_cases hlt:i<n
 ·refine .inr ⟨hlt,Pv (i+1),λσ' H' p'=>⟨n-(i+1),∅,rfl,hlt,p'⟩,λx H' y=>?_⟩
  obtain ⟨e,y⟩:=y
  subst e y
  exact hs i σ _ hlt p
 ·have e:i=n:=∅
  subst e
  exact .inl ⟨ao _,hd σ H p⟩
end L2
end
section
namespace L2
structure Cal (P:Program) (w:aV) (K:aj) (mg:Str->Option ag) (base:Heap) (k:Nat) (x:Str) (ps:List Str) (sp:Sp):Prop where
 ex:∃f fd,FnOk P w K mg base CX0 k f fd ps sp/\zP K fd ps []/\mg x=some (.ref f)/\bJ K (.ref f)=true
theorem jd {X:Cx}{k:Nat}{x:Str}{ps:List Str}{sp:Sp}{e:Expr}{es:List Expr}{t:TA}{p pos:Pos}(c:Cal X.prog X.w X.K X.mg X.base k x ps sp) (hr:Room k X.A) (hg:Gl X x) (ha:PA X (e::es) t)
  (hdb:(x == ("__debug__" : Str))=false:=by decide) (he:aH (e::es) X.env=(false,eval e X.env)::aH es X.env:=by rfl) (hpl:(ck pos (aH es X.env)).any (·.1)=false:=by rfl) :
  PE X (.Call (.Name x p) (e::es) [] pos) (Vh sp [] E0 t):=by
 obtain ⟨f,fd,F,hb,hm,hk⟩:=c.ex
 exact YI F hr hg hm hk hb .nil Vc ha hdb he hpl
theorem Cal.mk' {P:Program}{w:aV}{K:aj}{mg:Str->Option ag}{base:Heap}{k:Nat}{x:Str}{ps:List Str}{sp:Sp}{st:Stmt}{h:Heap}{f:Addr}{oc:ag}{od an:Option Addr}{osl:Array (Option ag)}{kV doc pm cdv ct:ag}
  (X:K.In h) (G:h.Ns mainGlobals mg) (a:aP K mainGlobals x=some (some (.ref f)))
  (l:K.lookup f=some ⟨oc,od,.func (bx x x (jL st) (jF st) (j8 st) .none kV doc pm an cdv ct),osl⟩) (c:cx K cdv x=true) (k':bJ K (.ref f)=true)
  (hb:∀(kV doc pm:ag) (an:Option Addr) (cdv ct:ag) (us:List ag),us.length=ps.length->cv (bx x x (jL st) (jF st) (j8 st) .none kV doc pm an cdv ct) ⟨us,[]⟩=pure (ps.zip us))
  (ok:∀{f:Addr} {fd:FuncData},Fun K x x st f fd->FnOk P w K mg base CX0 k f fd ps sp):Cal P w K mg base k x ps sp:=by
 have F:=yx (st:=st) l c k'
 exact ⟨f,_,ok F,F.binds hb,bf X G a,k'⟩
section
variable {X:Cx}
def V2 (i j:Int):Prop:=0<j/\j<2 ^ 200
theorem yT:OpR X (fT .FloorDiv) (rI V2 λi j=>.int (i / j)):=opI λi j _ _ _ _ _ hc q=>by
 have h1:(0:Int)<j:=hc.1
 have h2:j<2 ^ 200:=hc.2
 refine floordiv_int ∅ (by rw [Int.fdiv_eq_ediv_of_nonneg i ∅];exact q) (.inl (PyProof.noPylong_of_log2 ?_))
 have h3:j.natAbs<2 ^ 200:=∅
 have h4:j.natAbs≠0:=∅
 have:=(Nat.log2_lt h4).mpr h3
 omega
theorem Zq (hc:X.calm=true):qu X (.builtin "all") (λxs H Q=>∃(p:Addr) (bs:List Bool),xs=[.ref p]/\SqL X.K H p (bs.map V.bl)/\Q (.bl (bs.all λb=>b)) H):=by
 intro pins s σ H xs us Q I r h
 obtain ⟨p,bs,rfl,hq,q⟩:=h
 obtain ⟨u,rfl,ru⟩:=xU r
 cases ru
 obtain ⟨its,rv,pl,hz⟩:=I.list hq
 have hne:p≠s.heap.objs.size:=by
  obtain ⟨o,n,e,_⟩:=id pl
  exact aA (ar e)
 have hlen:its.length=bs.length:=by rw [<- rv.length,af]
 have itsAt:∀i v,its[i]? = some v->∃b,bs[i]? = some b/\v=mF b:=λi v e=>by
  have hi:i<its.length:=(List.getElem?_eq_some_iff.mp e).1
  have hb:(bs.map V.bl)[i]? = some (V.bl (bs[i]'∅)):=by rw [au,aa ∅];rfl
  obtain ⟨u,h1,h2⟩:=rv.get hb
  rw [e] at h1
  cases h1
  exact ⟨bs[i]'∅,aa ∅,h2⟩
 refine call_all_walk (cM pl.isList ?_)
 refine ⟨s.heap.objs.size,_,_,_,_,_,λi=>bs.getD i true,rfl,mK (show (X.A.in1).handled=none from I.ok.hd hc) s.heap.objs.size p hne its.toArray,⟨⟨_,az _ rfl,rfl,rfl⟩,pl.isList.at λo e=>ah _ e⟩,?_,?_⟩
 ·intro i v s' Q' E' hP hQ
  obtain ⟨b,hb,rfl⟩:=itsAt i v (by simpa using hP)
  have e:bs.getD i true=b:=by rw [ak,hb];rfl
  have hQ:Q' (bs.getD i true) s':=hQ
  rw [e] at hQ
  exact bT hQ
 ·intro h' tk hk
  have e:((aO its.toArray.size).all λi=>bs.getD i true)=bs.all λb=>b:=by
   rw [aw,hlen,dP,bN,bN]
   constructor
   ·intro z b hb
    obtain ⟨i,hi,rfl⟩:=List.mem_iff_getElem.mp hb
    have:=z i (List.mem_range.mpr hi)
    rw [ak,aa hi] at this
    exact this
   ·intro z i hi
    have hi':=List.mem_range.mp hi
    rw [ak,aa hi']
    exact z _ (bz hi')
  rw [e]
  refine ⟨.bl _,H,I.kept (t':=tk) λb o eo=>hk b o (by
   intro z
   have:=List.mem_singleton.mp z
   subst this
   exact absurd (ar eo) (c3 _)) (ah _ eo),rfl,q⟩
end
def Ext (b:Addr) (H H':Hp):Prop:=∀c o,H c=some o->c≠b->H' c=some o
theorem Ext.refl {b:Addr}{H:Hp}:Ext b H H:=λ_ _ h _=>h
theorem Ext.trans {b:Addr}{H H1 H2:Hp}(x:Ext b H H1) (y:Ext b H1 H2):Ext b H H2:=λc o h n=>y c o (x c o h n) n
theorem Ext.of_same {b:Addr}{H H':Hp}(x:jm H H'):Ext b H H':=λc o h _=>x c o h
theorem Ext.put {b:Addr}{H:Hp}{o:HO}:Ext b H (upd H b o):=λc _ h n=>by rw [j5 n];exact h
theorem jm.new {H:Hp}{p:Addr}{o:HO}(n:H p=none):jm H (upd H p o):=λc u h=>by rw [j5 (j1 h n)];exact h
theorem Ext.new {b:Addr}{H:Hp}{p:Addr}{o:HO}(n:H p=none):Ext b H (upd H p o):=Ext.of_same (jm.new n)
theorem Ext.free {b:Addr}{H H':Hp}(x:Ext b H H') {p:Addr}(h:H' p=none) (n:p≠b):H p=none:=by
 cases q:H p with
 | none=>rfl
 | some o=>rw [x p o q n] at h;cases h
end L2
end
section
namespace L2
section
variable {X:Cx}
theorem ja (K:aj) (h:X.K=K:=by rfl):IxR X (Vu K):=by subst h;exact Yg
theorem xu (K:aj) (h:X.K=K:=by rfl):IxR X (VZ K):=by subst h;exact VO
theorem jf (K:aj) (h:X.K=K:=by rfl):qu X (.builtin "len") (λxs H Q=>∃p ys,xs=[.ref p]/\(SqL K H p ys\/SqT K H p ys)/\Q (.int ys.length) H):=by subst h;exact hW
theorem JO (K:aj) (h:X.K=K:=by rfl):OpR X (cc .In) (rIn K false):=by subst h;exact XS
theorem zp (K:aj) (h:X.K=K:=by rfl):OpR X (cc .NotIn) (rIn K true):=by subst h;exact kJ
theorem yf (K:aj) (hc:X.calm=true) (h:X.K=K:=by rfl):qu X (.builtin "all") (λxs H Q=>∃(p:Addr) (bs:List Bool),xs=[.ref p]/\SqL K H p (bs.map V.bl)/\Q (.bl (bs.all λb=>b)) H):=by subst h;exact Zq hc
theorem qa {tg l:Expr}{tl:TE}(K:aj) (hl:PE X l tl) (h:X.K=K:=by rfl):PI X tg l (Va K tl):=by subst h;exact Yc hl
theorem vc {tg l:Expr}{tl:TE}(K:aj) (hl:PE X l tl) (h:X.K=K:=by rfl):PI X tg l (Uy K tl):=by subst h;exact U7 hl
theorem qS {es:List Expr}{k:Nat}{t:TGs}{n:Nat}{pos:Pos}(K:aj) (hc:X.calm=true) (h:PGs X es t)
  (hn:(eW es X.env).length=n:=by rfl) (hst:(eW es X.env).findIdx? (·.1)=none:=by rfl) (hK:X.K=K:=by rfl):PG X (.Tuple es k pos) (Uw K n t):=by subst hK;exact U0 hc h hn hst
theorem yG {T id:String}{name:Str}{r:V->List V->Hp->VK->Prop}{o e:Expr}{es:List Expr}{to:TE}{t:TA}{apos cpos:Pos}(K:aj) (pa:PlainAttrs T) (slot:Slot T name id) (hty:pU (.builtin id)=pure (.type "method_descriptor")) (hm:MtR X id r) (ho:PE X o to) (ha:PA X (e::es) t)
  (hbase:eN o name X.env (eval o X.env)=eval o X.env:=by rfl)
  (hfew:((ck cpos (aH (e::es) X.env)).all (λx=>!x.1) && (iq cpos (ee [] X.env)).all (λx=>x.1.isSome)
   && decide ((e::es).length+([]:List lq).length+(if ([]:List lq).isEmpty then 0 else 1)<30))=true:=by rfl)
  (hline:(apos.endLine == cpos.line)=true:=by rfl) (hs:aH (e::es) X.env=(false,eval e X.env)::aH es X.env:=by rfl) (hplain:(ck cpos (aH es X.env)).any (·.1)=false:=by rfl) (hK:X.K=K:=by rfl) :
  PE X (.Call (.Attribute o name apos) (e::es) [] cpos) (tBM K T r to t):=by subst hK;exact US pa slot hty hm ho ha hbase hfew hline hs hplain
end
def New (H:Hp) (o:HO) (Q:VK):Prop:=∀p H',H p=none->H' p=some o->jm H H'->Q (.ref p) H'
theorem New.at {H:Hp}{o:HO}{Q:VK}(h:New H o Q):∀p,H p=none->Q (.ref p) (upd H p o):=λp n=>h p _ n j4 (jm.new n)
section
variable {X:Cx}{es:List Expr}{t:TA}{pos:Pos}
def UG (t:TA):TE:=λσ H Q=>t σ H λxs H1=>xs.length<=sizeLine/\New H1 (.tup xs) Q
def UF (t:TA):TE:=λσ H Q=>t σ H λxs H1=>xs.length<=sizeLine/\New H1 (.lst xs) Q
theorem zN {x1}(h:PA X es t):PE X (.Tuple es x1 pos) (UG t):=by
 intro pins s σ H Q I hq
 refine wpAny_Tuple_spliced (thn (h pos pins s σ H _ I hq) λus s1 ⟨xs,H1,I1,r,z,q⟩=>⟨by rw [<- r.length];exact z,?_⟩)
 have hf:H1 s1.heap.objs.size=none:=I1.hok.fresh (ao _)
 refine ⟨.ref s1.heap.objs.size,upd H1 s1.heap.objs.size (.tup xs),I1.laid (t':=s1.toks) (λb u e=>ah _ e) (ao _) ?_,rfl,q.at _ hf⟩
 exact ⟨z,us,r,⟨_,az _ rfl,rfl,_,rfl⟩⟩
theorem jQ (h:PA X es t):PE X (.List es pos) (UF t):=by
 intro pins s σ H Q I hq
 refine wpAny_List_spliced (thn (h pos pins s σ H _ I hq) λus s1 ⟨xs,H1,I1,r,z,q⟩=>⟨by rw [<- r.length];exact z,?_⟩)
 have hf:H1 s1.heap.objs.size=none:=I1.hok.fresh (ao _)
 refine ⟨.ref s1.heap.objs.size,upd H1 s1.heap.objs.size (.lst xs),I1.laid (t':=s1.toks) (λb u e=>ah _ e) (ao _) ?_,rfl,q.at _ hf⟩
 exact ⟨z,us,0,r,az _ rfl⟩
theorem OpR.weak {f:ag->ag->Sem ag}{r r':R2}(h:OpR X f r) (w:∀x y H Q,r' x y H Q->r x y H Q):OpR X f r':=λpins s σ H x y v u Q I rx ry q=>h pins s σ H x y v u Q I rx ry (w _ _ _ _ q)
theorem qu.weak {f:ag}{r r':List V->Hp->VK->Prop}(h:qu X f r) (w:∀x H Q,r' x H Q->r x H Q):qu X f r':=λpins s σ H xs us Q I rx q=>h pins s σ H xs us Q I rx (w _ _ _ q)
theorem SlR.weak {r r':V->Option Int->Option Int->Hp->VK->Prop}(h:SlR X r) (w:∀x lo hi H Q,r' x lo hi H Q->r x lo hi H Q):SlR X r':=λpins s σ H x v vl vu lo hi sl Q I rx hs pl pu q=>h pins s σ H x v vl vu lo hi sl Q I rx hs pl pu (w _ _ _ _ _ q)
def UT:R2:=λx y H Q=>∃l b xs zs,x = .ref l/\y = .ref b/\H l=some (.lst xs)/\H b=some (.lst zs)/\xs.length+zs.length<=sizeLine/\New H (.lst (xs++zs)) Q
theorem QZ:OpR X (fT .Add) UT:=VD.weak λ_ _ _ _ ⟨l,b,xs,zs,h1,h2,h3,h4,h5,q⟩=>⟨l,b,xs,zs,h1,h2,h3,h4,h5,q.at⟩
theorem qo (K:aj) (h:X.K=K:=by rfl):qu X (.type "list") (λxs H Q=>∃p ys,xs=[.ref p]/\(SqL K H p ys\/SqT K H p ys)/\New H (.lst ys) Q):=by
 subst h
 exact kL.weak λ_ _ _ ⟨p,ys,h1,h2,q⟩=>⟨p,ys,h1,h2,q.at⟩
theorem kj (K:aj) (h:X.K=K:=by rfl):SlR X (λx lo hi H Q=>∃a xs,x = .ref a/\SqL K H a xs/\New H (.lst (kA xs lo hi)) Q):=by
 subst h
 exact Yq.weak λ_ _ _ _ _ ⟨a,xs,h1,h2,q⟩=>⟨a,xs,h1,h2,q.at⟩
end
theorem xg {p A B:Prop} [Decidable p] (h1:p->A) (h2:¬p->B):if decide p=true then A else B:=by
 by_cases h:p
 ·rw [if_pos (decide_eq_true h)];exact h1 h
 ·rw [if_neg (by rw [decide_eq_false h];exact aq)];exact h2 h
theorem zO {p A B:Prop} [Decidable p] (h1:¬p->A) (h2:p->B):if (!decide p)=true then A else B:=by
 by_cases h:p
 ·rw [if_neg (by rw [decide_eq_true h];exact aq)];exact h2 h
 ·rw [if_pos (by rw [decide_eq_false h];rfl)];exact h1 h
theorem xl {α:Type}{xs:List α}{i:Int}{v:α}(h0:0<=i) (h:xs[i.toNat]? = some v):atI xs i=some v:=by
 obtain ⟨n,rfl⟩:=Int.eq_ofNat_of_zero_le h0
 exact zc (by simpa using h)
theorem xL {ns:List Int}{i:Int}(h0:0<=i) (h:i<ns.length):∃z,atI (ns.map V.int) i=some (.int z):=by
 refine ⟨ns[i.toNat]'∅,xl h0 ?_⟩
 rw [au,aa ∅]
 rfl
theorem zZ {ns:List Int}{i:Nat}{y:V}(h:(ns.map V.int)[i]? = some y):∃z,y=V.int z:=by
 rw [au] at h
 cases e:ns[i]? with
 | none=>rw [e] at h;cases h
 | some z=>rw [e] at h;exact ⟨z,(aQ h).symm⟩
def QK:Sp:=λvs H Q _=>∃a b:Int,vs=[.int a,.int b]/\∀r:Int,Q (.int r) H
structure Nb (mg:Str->Option ag):Prop where
 b_len:mg "len" = none
 b_range:mg "range" = none
 b_isinstance:mg "isinstance" = none
 b_int:mg "int" = none
 b_bool:mg "bool" = none
 b_str:mg "str" = none
 b_list:mg "list" = none
 b_tuple:mg "tuple" = none
 b_min:mg "min" = none
 b_max:mg "max" = none
 b_all:mg "all" = none
 b_zip:mg "zip" = none
end L2
end
section
namespace L2
section
variable {X:Cx}
end
end L2
end
section
namespace L2
def tCut (t u:TS):TS:=λD σ H=>∃P:St->Hp->Prop,t { D with nx:=P } σ H/\∀σ' H',P σ' H'->u D σ' H'
theorem yX {X:Cx}{st:Stmt}{yN:List Stmt}{t u:TS}(h1:PS X st t) (h2:PSs X yN u):PSs X (st::yN) (tCut t u):=by
 intro pins s σ H D I h
 obtain ⟨P,h,hP⟩:=h
 refine iR (thn (h1 pins s σ H { D with nx:=P } I h) λf s1 q=>?_)
 cases f with
 | next =>
  obtain ⟨σ',H',I',q⟩:=q
  exact h2 pins s1 σ' H' D I' (hP _ _ q)
 | ret v=>exact q
 | brk=>exact q
 | cont=>exact q
section
variable {X:Cx}
end
def jM (L:Addr) (H:Hp) (b:Addr):Prop:=∃(ns:List Int) (a r c d:Int),H b=some (.lst [.ref L,.int a,.int r,.int c,.int d])/\L≠b/\H L=some (.lst (ns.map V.int))/\0<=a
theorem jM.same {L:Addr}{H H':Hp}{b:Addr}(B:jM L H b) (s:jm H H'):jM L H' b:=by
 obtain ⟨ns,a,r,c,d,h1,h2,h3,h4⟩:=B
 exact ⟨ns,a,r,c,d,s _ _ h1,h2,s _ _ h3,h4⟩
theorem jM.ext {L:Addr}{H H':Hp}{b acc:Addr}(B:jM L H b) (n:acc≠b) (m:acc≠L) (e:Ext acc H H'):jM L H' b:=by
 obtain ⟨ns,a,r,c,d,h1,h2,h3,h4⟩:=B
 exact ⟨ns,a,r,c,d,e _ _ h1 n.symm,h2,e _ _ h3 m.symm,h4⟩
theorem jM.put {L:Addr}{H:Hp}{b acc:Addr}{o:HO}(B:jM L H b) (n:acc≠b) (m:acc≠L):jM L (upd H acc o) b:=B.ext n m Ext.put
theorem jM.ne {L:Addr}{H:Hp}{b p:Addr}(B:jM L H b) (n:H p=none):p≠b:=by
 obtain ⟨ns,a,r,c,d,h1,h2,h3,h4⟩:=B
 exact (j1 h1 n).symm
theorem jM.neL {L:Addr}{H:Hp}{b p:Addr}(B:jM L H b) (n:H p=none):p≠L:=by
 obtain ⟨ns,a,r,c,d,h1,h2,h3,h4⟩:=B
 exact (j1 h3 n).symm
theorem jM.ne_tup {L:Addr}{H:Hp}{b p:Addr}{xs:List V}(B:jM L H b) (n:H p=some (.tup xs)):p≠b:=by
 obtain ⟨ns,a,r,c,d,h1,h2,h3,h4⟩:=B
 exact jh n h1 (by intro z;cases z)
def xk:Sp:=λvs H Q _=>∃(L b:Addr) (n:Int),vs=[.ref b,.int n]/\jM L H b/\(0<n/\n<2 ^ 200)/\∀(v:Int) (H':Hp),0<=v->v<n->jM L H' b->Ext b H H'->Q (.int v) H'
def Zu (K:aj):Sp:=λvs H Q _=>∃(a:Addr) (ns:List Int),vs=[.ref a]/\SqL K H a (ns.map V.int)/\∀(L b:Addr) (H':Hp),H b=none->jM L H' b->jm H H'->Q (.ref b) H'
abbrev T3:=Int×Int×Int
abbrev zo (t:T3):HO:=.tup [.int t.1,.int t.2.1,.int t.2.2]
def VY (H:Hp) (v:V) (t:T3):Prop:=∃p,v = .ref p/\H p=some (zo t)
def qg (H:Hp) (vs:List V) (ts:List T3):Prop:=cO (VY H) vs ts
theorem qg.length {H:Hp}{vs:List V}{ts:List T3}(r:qg H vs ts):vs.length=ts.length:=b8 r
theorem qg.get {H:Hp}:∀{vs:List V}{ts:List T3}{i:Nat}{v:V},qg H vs ts->vs[i]? = some v->∃t,ts[i]? = some t/\VY H v t
 | _,_,_,_,.nil,e=>by simp at e
 | _,_,0,_,.cons r _,e=>by simp at e;subst e;exact ⟨_,rfl,r⟩
 | _,_,i+1,v,.cons _ t,e=>by
  obtain ⟨d,h1,h2⟩:=qg.get (i:=i) (v:=v) t (by simpa using e)
  exact ⟨d,by simpa using h1,h2⟩
theorem qg.imp {H H':Hp}{vs:List V}{ts:List T3}(r:qg H vs ts) (h:∀p t,H p=some (zo t)->H' p=some (zo t)):qg H' vs ts :=
 Paired.mapP r λ_ t ⟨p,e,q⟩=>⟨p,e,h p t q⟩
theorem qg.snoc {H:Hp}{vs:List V}{ts:List T3}{v:V}{t:T3}(r:qg H vs ts) (h:VY H v t):qg H (vs++[v]) (ts++[t]):=cW r h
theorem qj {α β:Type}(f:α->β) (l:List α) (i:Nat) (v:α) (h:l[i]? = some v):(l.take (i+1)).map f=(l.take i).map f++[f v]:=by
 rw [bW,h,aB]
 rfl
end L2
end
section
namespace L2
open PySem PySem.W PyProof.Rows
def qE {α:Type}(lt:Nat->Nat->Bool) (n:Nat):KasT α->(α->Prop)->Prop
 | .ret a,G=>G a
 | .ask i j k,G=>i<n/\j<n/\qE lt n (k (lt i j)) G
theorem qE.bind {α β:Type}{lt:Nat->Nat->Bool}{n:Nat}{f:α->KasT β}{G:β->Prop}:∀{t:KasT α},qE lt n t (λa=>qE lt n (f a) G)->qE lt n (t.bind f) G
 | .ret _,h=>h
 | .ask _ _ k,h=>⟨h.1,h.2.1,qE.bind (t:=k _) h.2.2⟩
theorem qE.wp {α:Type}{lt:Nat->Nat->Bool}{n:Nat}{cmp:Nat->Nat->(Bool->Shared->Prop)->Shared->Prop}{I:Shared->Prop}(hc:∀i j C s,i<n->j<n->I s->(∀s',I s'->C (lt i j) s')->cmp i j C s)
  {G:α->Prop} {Q:α->Shared->Prop} (hq:∀a s,G a->I s->Q a s):∀{t:KasT α} {s:Shared},qE lt n t G->I s->t.kasWp cmp Q s
 | .ret a,s,h,hs=>hq a s h hs
 | .ask i j k,s,h,hs=>hc i j _ s h.1 h.2.1 hs λs' hs'=>qE.wp hc hq (t:=k _) h.2.2 hs'
section
variable {O:KeyOrd}{key:Nat->O.α}{n:Nat}{p:Array Nat}
abbrev ltK (O:KeyOrd) (key:Nat->O.α):Nat->Nat->Bool:=λi j=>O.blt (key i) (key j)
abbrev kp (key:Nat->O.α) (p:Array Nat) (i:Nat):O.α:=key (p.getD i 0)
def xV (key:Nat->O.α) (p:Array Nat) (k:Nat):Prop:=∀i j,i<=j->j<k->O.kle (kp key p i) (kp key p j)
def uM (key:Nat->O.α) (p:Array Nat) (k:Nat):Prop:=∀i j,i<=j->j<k->O.kle (kp key p j) (kp key p i)
def jZ (n:Nat) (p:Array Nat):Prop:=p.Perm (aO n).toArray
theorem jZ.size (h:jZ n p):p.size=n:=by have:=h.size_eq;simpa using this
theorem jZ.lt (h:jZ n p) (hn:0<n) (i:Nat):p.getD i 0<n:=by
 by_cases hi:i<p.size
 ·have e:p.getD i 0=p[i]:=by simp [mL,hi]
  rw [e]
  have hm:p[i]∈(aO n).toArray.toList:=(Array.perm_iff_toList_perm.mp h).mem_iff.mp (by simp)
  simpa using hm
 ·have e:p.getD i 0=0:=by simp [mL,hi]
  rw [e];exact hn
theorem xN {p q:Array Nat}{i j:Nat}(h:p[i]? = q[j]?):p.getD i 0=q.getD j 0:=by
 rw [ie,ie,h]
theorem wR {src d:Nat}(hs:src<p.size) (hd:d<=src) (k:Nat) :
  kp (O:=O) key (bubble p src d) k=if k=src-d then kp key p src else if src-d<k/\k<=src then kp key p (k-1) else kp key p k:=by
 have e:=getElem?_bubble hs d hd k
 unfold kp
 by_cases h1:k=src-d
 ·rw [if_pos h1] at e ⊢;rw [xN e]
 ·rw [if_neg h1] at e ⊢
  by_cases h2:src-d<k/\k<=src
  ·rw [if_pos h2] at e ⊢;rw [xN e]
  ·rw [if_neg h2] at e ⊢;rw [xN e]
theorem Q5 {i j:Nat}(hj:j<=p.size) (k:Nat):kp (O:=O) key (oK p i j) k=if i<=k/\k<j then kp key p (i+j-1-k) else kp key p k:=by
 have e:=getElem?_mirror_all (i:=i) hj k
 unfold kp oK
 by_cases h1:i<=k/\k<j
 ·rw [if_pos h1] at e ⊢;rw [xN e]
 ·rw [if_neg h1] at e ⊢;rw [xN e]
theorem xb {i j:Nat}(hj:j<=p.size) (heq:∀k,i<=k->k<j->kp (O:=O) key p k=kp key p (j-1)) (k:Nat):kp (O:=O) key (oK p i j) k=kp key p k:=by
 rw [Q5 hj]
 split
 ·rw [heq _ ∅ ∅,heq k ∅ ∅]
 ·rfl
theorem jZ.rev (h:jZ n p) (i j:Nat):jZ n (oK p i j):=(mirror_perm _ _ _ _).trans h
theorem jZ.bub (h:jZ n p) (i j:Nat):jZ n (bubble p i j):=(bubble_perm _ _ _).trans h
theorem kX (hP:jZ n p) (hn:0<n) {G:Nat->Prop}:∀(f a:Nat),1<=a->xV (O:=O) key p a ->
  (∀m,a<=m->m<=a+f->xV (O:=O) key p m->(m=a+f\/O.klt (kp key p m) (kp key p (m-1)))->G m)->qE (ltK O key) n (kas_asc p f a) G
 | 0,a,_,hs,h=>h a (ao _) (ao _) hs (.inl rfl)
 | f+1,a,h1,hs,h=>by
  refine ⟨hP.lt hn _,hP.lt hn _,?_⟩
  show qE _ _ (if O.blt (kp key p a) (kp key p (a-1))=true then _ else _) _
  cases hless:O.blt (kp key p a) (kp key p (a-1)) with
  | true=>rw [if_pos rfl];exact h a (ao _) ∅ hs (.inr hless)
  | false =>
   rw [if_neg aq]
   refine kX hP hn f (a+1) ∅ (λi j hij hj=>?_) λm hm1 hm2 hsm ho=>h m ∅ ∅ hsm (ho.imp (λz=>∅) id)
   by_cases hja:j<a
   ·exact hs i j hij hja
   ·have hj':j=a:=∅
    subst hj'
    by_cases hi':i=j
    ·subst hi';exact cR _
    ·exact fN (hs i (j-1) ∅ ∅) hless
theorem wM (hP:jZ n p) {m nrem:Nat}{G:Nat×Array Nat->Prop}(h1:1<=m) (hm:m<=nrem) (hn:nrem<=n) (hs:uM (O:=O) key p m)
  (h:∀k p',jZ n p'->1<=k->k<=nrem->xV (O:=O) key p' k->G (k,p')):qE (ltK O key) n (pS m nrem p) G:=by
 have hsz:m<=p.size:=by rw [hP.size];omega
 refine qE.bind (kX (hP.rev _ _) ∅ _ m h1 (λi j hij hj=>?_) λk hk1 hk2 hk3 _=>h k _ (hP.rev _ _) ∅ ∅ hk3)
 rw [Q5 hsz,Q5 hsz,if_pos ∅,if_pos ∅]
 exact hs _ _ ∅ ∅
theorem vf {nrem:Nat}(hn:nrem<=n) {G:Array Nat×Nat×Nat->Prop}:∀(f:Nat) (p:Array Nat) (x q:Nat),jZ n p->1<=x->x+f=nrem->uM (O:=O) key p x->q+1<=x ->
  (∀i,x-(q+1)<=i->i<x->kp (O:=O) key p i=kp key p (x-1)) ->
  (∀p' m q',jZ n p'->x<=m->m<=nrem->uM (O:=O) key p' m->q'+1<=m->(∀i,m-(q'+1)<=i->i<m->kp (O:=O) key p' i=kp key p' (m-1))->G (p',m,q')) ->
  qE (ltK O key) n (kas_desc f p x q) G
 | 0,p,x,q,hP,h1,hx,hs,hq,he,h=>h p x q hP (ao _) ∅ hs hq he
 | f+1,p,x,q,hP,h1,hx,hs,hq,he,h=>by
  have hsz:x<=p.size:=by rw [hP.size];omega
  refine ⟨hP.lt ∅ _,hP.lt ∅ _,?_⟩
  show qE _ _ (if O.blt (kp key p x) (kp key p (x-1))=true then _ else _) _
  cases hless:O.blt (kp key p x) (kp key p (x-1)) with
  | true =>
   rw [if_pos rfl]
   have step1:∀p':Array Nat,(∀k,kp (O:=O) key p' k=kp key p k)->uM (O:=O) key p' (x+1):=by
    intro p' hk i j hij hj
    rw [hk,hk]
    by_cases hjx:j<x
    ·exact hs i j hij hjx
    ·have hj':j=x:=∅
     subst hj'
     by_cases hi':i=j
     ·subst hi';exact cR _
     ·exact fN (fD hless) (hs i (j-1) ∅ ∅)
   by_cases hneq:q > 0
   ·rw [if_pos hneq]
    exact vf hn f _ (x+1) 0 (hP.rev _ _) ∅ ∅ (step1 _ (xb hsz he)) ∅ (λi h1 h2=>by congr 1;omega) λp' m q' a b=>h p' m q' a ∅
   ·rw [if_neg hneq]
    exact vf hn f _ (x+1) 0 hP ∅ ∅ (step1 _ λ_=>rfl) ∅ (λi h1 h2=>by congr 1;omega) λp' m q' a b=>h p' m q' a ∅
  | false =>
   rw [if_neg aq]
   refine ⟨hP.lt ∅ _,hP.lt ∅ _,?_⟩
   show qE _ _ (if O.blt (kp key p (x-1)) (kp key p x)=true then _ else _) _
   cases hlarger:O.blt (kp key p (x-1)) (kp key p x) with
   | true=>rw [if_pos rfl];exact h p x q hP (ao _) ∅ hs hq he
   | false =>
    rw [if_neg aq]
    have heqx:kp (O:=O) key p x=kp key p (x-1):=ia hlarger hless
    refine vf hn f p (x+1) (q+1) hP ∅ ∅ (λi j hij hj=>?_) ∅ (λi h1 h2=>?_) λp' m q' a b=>h p' m q' a ∅
    ·by_cases hjx:j<x
     ·exact hs i j hij hjx
     ·have hj':j=x:=∅
      subst hj'
      by_cases hi':i=j
      ·subst hi';exact cR _
      ·rw [heqx];exact hs i (j-1) ∅ ∅
    ·rw [show x+1-1=x by omega]
     by_cases hix:i=x
     ·subst hix;rfl
     ·rw [heqx];exact he i ∅ ∅
theorem vw (hP:jZ n p) {m nrem:Nat}{G:Nat×Array Nat->Prop}(hm:m+1<=nrem) (hn:nrem<=n) (hs:uM (O:=O) key p (m+1))
  (h:∀k p',jZ n p'->1<=k->k<=nrem->xV (O:=O) key p' k->G (k,p')):qE (ltK O key) n (kas_descPart m nrem p) G:=by
 refine qE.bind (vf hn _ p (m+1) 0 hP ∅ ∅ hs ∅ (λi h1 h2=>by congr 1;omega) λp' k q hP' hk1 hk2 hs' hq he=>?_)
 have hsz:k<=p'.size:=by rw [hP'.size];omega
 show qE _ _ (if q > 0 then pS k nrem (oK p' (k-(q+1)) k) else pS k nrem p') _
 by_cases hneq:q > 0
 ·rw [if_pos hneq]
  refine wM (hP'.rev _ _) ∅ hk2 hn (λi j hij hj=>?_) h
  rw [xb hsz he,xb hsz he]
  exact hs' i j hij hj
 ·rw [if_neg hneq]
  exact wM hP' ∅ hk2 hn hs' h
theorem Xg (hP:jZ n p) (hn:0<n) {G:Nat×Array Nat->Prop}(h:∀k p',jZ n p'->1<=k->k<=n->xV (O:=O) key p' k->G (k,p')):qE (ltK O key) n (kas_count n p) G:=by
 refine qE.bind (kX hP hn _ 1 (ao 1) (λi j hij hj=>by have:i=j:=∅;subst this;exact cR _) λm hm1 hm2 hsm hor=>?_)
 by_cases hnn:m=n
 ·rw [if_pos (by simpa using hnn)]
  exact h m p hP hm1 ∅ hsm
 ·rw [if_neg (by simpa using hnn)]
  have hlt:O.klt (kp key p m) (kp key p (m-1)):=by
   rcases hor with z | z
   ·omega
   ·exact z
  by_cases hgt:m > 1
  ·rw [if_pos hgt]
   refine ⟨hP.lt hn _,hP.lt hn _,?_⟩
   show qE _ _ (if O.blt (kp key p 0) (kp key p (m-1))=true then _ else _) _
   cases hrose:O.blt (kp key p 0) (kp key p (m-1)) with
   | true=>rw [if_pos rfl];exact h m p hP hm1 ∅ hsm
   | false =>
    rw [if_neg aq]
    have hsz:m<=p.size:=by rw [hP.size];omega
    have hall:∀k,0<=k->k<m->kp (O:=O) key p k=kp key p (m-1):=by
     intro k _ hk
     have a1:=hsm 0 k ∅ hk
     have a2:=hsm k (m-1) ∅ ∅
     exact ia a2 (fN hrose a1)
    refine vw (hP.rev _ _) ∅ (ao _) (λi j hij hj=>?_) h
    rw [xb hsz hall,xb hsz hall]
    by_cases hjn:j<m
    ·rw [hall i ∅ ∅,hall j ∅ hjn];exact cR _
    ·have hj':j=m:=∅
     subst hj'
     by_cases hi':i=j
     ·subst hi';exact cR _
     ·rw [hall i ∅ ∅];exact fD hlt
  ·rw [if_neg hgt]
   have hm1':m=1:=∅
   subst hm1'
   refine vw hP ∅ (ao _) (λi j hij hj=>?_) h
   by_cases hi':i=j
   ·subst hi';exact cR _
   ·have hi0:i=0:=∅
    have hj1:j=1:=∅
    subst hi0;subst hj1
    exact fD hlt
theorem vX (hP:jZ n p) (hn:0<n) {k:Nat}(hs:xV (O:=O) key p k) {G:Nat->Prop}:∀(f l r:Nat),l<=r->r<=k->r-l<=f ->
  (∀i,i<l->O.kle (kp key p i) (kp key p k))->(∀i,r<=i->i<k->O.klt (kp key p k) (kp key p i)) ->
  (∀l,l<=k->(∀i,i<l->O.kle (kp key p i) (kp key p k))->(∀i,l<=i->i<k->O.klt (kp key p k) (kp key p i))->G l)->qE (ltK O key) n (kas_place p k f l r) G
 | 0,l,r,hlr,hrk,hm,hlo,hhi,h=>by
  have:l=r:=∅
  subst this
  exact h l hrk hlo hhi
 | f+1,l,r,hlr,hrk,hm,hlo,hhi,h=>by
  unfold kas_place
  by_cases hge:l>=r
  ·rw [if_pos hge]
   have:l=r:=∅
   subst this
   exact h l hrk hlo hhi
  ·rw [if_neg hge]
   refine ⟨hP.lt hn _,hP.lt hn _,?_⟩
   show qE _ _ (if O.blt (kp key p k) (kp key p ((l+r) / 2))=true then _ else _) _
   cases hless:O.blt (kp key p k) (kp key p ((l+r) / 2)) with
   | true =>
    rw [if_pos rfl]
    exact vX hP hn hs f l _ ∅ ∅ ∅ hlo (λi h1 h2=>KeyOrd.klt_of_klt_of_kle hless (hs _ _ h1 h2)) h
   | false =>
    rw [if_neg aq]
    exact vX hP hn hs f _ r ∅ ∅ ∅ (λi h1=>fN (hs i ((l+r) / 2) ∅ ∅) (show O.kle _ _ from hless)) hhi h
theorem QJ (hn:0<n) {G:Array Nat->Prop}:∀(f:Nat) (p:Array Nat) (k:Nat),jZ n p->k+f=n->xV (O:=O) key p k ->
  (∀p',jZ n p'->xV (O:=O) key p' n->G p')->qE (ltK O key) n (kas_bin f p k) G
 | 0,p,k,hP,hk,hs,h=>h p hP (by rw [<- hk];exact hs)
 | f+1,p,k,hP,hk,hs,h=>by
  refine qE.bind (vX hP hn hs k 0 k (aJ _) (ao _) ∅ (λi hi=>∅) (λi h1 h2=>∅) λl hlk hlo hhi=>?_)
  refine QJ hn f _ (k+1) (hP.bub _ _) ∅ (λi j hij hj=>?_) h
  have hks:k<p.size:=by rw [hP.size];omega
  rw [wR hks ∅,wR hks ∅,show k-(k-l)=l by omega]
  repeat' split
  all_goals first
   | (exfalso;omega)
   | exact cR _
   | exact hlo _ ∅
   | exact fD (hhi _ ∅ ∅)
   | exact hs _ _ ∅ ∅
theorem uC (hn:0<n) {G:Array Nat->Prop}(h:∀p',jZ n p'->xV (O:=O) key p' n->G p'):qE (ltK O key) n (rn n) G:=by
 refine qE.bind (Xg (Array.Perm.refl _) hn λk p' hP h1 hk hs=>?_)
 show qE _ _ (if k<n then kas_bin (n-max k 1) p' (max k 1) else .ret p') _
 by_cases hkn:k<n
 ·rw [if_pos hkn,show max k 1=k by omega]
  exact QJ hn _ p' k hP ∅ hs h
 ·rw [if_neg hkn]
  have e:k=n:=∅
  subst e
  exact h p' hP hs
end
def xR:List Int->List Int->Bool
 | [],[]=>false
 | [],_::_=>true
 | _::_,[]=>false
 | a::x,b::y=>if a=b then xR x y else decide (a<b)
theorem vZ:∀a,xR a a=false
 | []=>rfl
 | a::x=>by unfold xR;rw [if_pos rfl];exact vZ x
theorem uL:∀a b c,xR a b=true->xR b c=true->xR a c=true
 | [],[],_,h,_=>by cases h
 | [],_::_,[],_,h=>by cases h
 | [],_::_,_::_,_,_=>rfl
 | _::_,[],_,h,_=>by cases h
 | _::_,_::_,[],_,h=>by cases h
 | a::x,b::y,c::z,h1,h2=>by
  unfold xR at h1 h2 ⊢
  by_cases e1:a=b
  ·subst e1
   rw [if_pos rfl] at h1
   by_cases e2:a=c
   ·rw [if_pos e2] at h2 ⊢;exact uL x y z h1 h2
   ·rw [if_neg e2] at h2 ⊢;exact h2
  ·rw [if_neg e1] at h1
   have h1':=of_decide_eq_true h1
   by_cases e2:b=c
   ·subst e2;rw [if_neg e1];exact h1
   ·rw [if_neg e2] at h2
    have h2':=of_decide_eq_true h2
    rw [if_neg ∅]
    exact decide_eq_true ∅
theorem JL:∀a b c,xR a c=true->xR a b=true\/xR b c=true
 | [],[],[],h=>by cases h
 | [],[],_::_,_=>.inr rfl
 | [],_::_,_,_=>.inl rfl
 | _::_,_,[],h=>by cases h
 | _::_,[],_::_,_=>.inr rfl
 | a::x,b::y,c::z,h=>by
  unfold xR at h ⊢
  by_cases e1:a=b
  ·subst e1
   rw [if_pos rfl]
   by_cases e2:a=c
   ·rw [if_pos e2] at h ⊢;exact JL x y z h
   ·rw [if_neg e2] at h ⊢;exact .inr h
  ·rw [if_neg e1]
   by_cases e2:b=c
   ·subst e2;rw [if_neg e1] at h;exact .inl h
   ·rw [if_neg e2]
    by_cases e3:a=c
    ·subst e3
     by_cases hab:a<b
     ·exact .inl (decide_eq_true hab)
     ·exact .inr (decide_eq_true ∅)
    ·rw [if_neg e3] at h
     have h':=of_decide_eq_true h
     by_cases hab:a<b
     ·exact .inl (decide_eq_true hab)
     ·exact .inr (decide_eq_true ∅)
theorem uI:∀a b,xR a b=false->xR b a=false->a=b
 | [],[],_,_=>rfl
 | [],_::_,h,_=>by cases h
 | _::_,[],_,h=>by cases h
 | a::x,b::y,h1,h2=>by
  unfold xR at h1 h2
  by_cases e:a=b
  ·subst e
   rw [if_pos rfl] at h1 h2
   rw [uI x y h1 h2]
  ·rw [if_neg e] at h1
   rw [if_neg (λz=>e z.symm)] at h2
   have:=of_decide_eq_false h1
   have:=of_decide_eq_false h2
   omega
def uo:KeyOrd:=⟨List Int,xR,vZ,uL,JL,uI⟩
def Yk:KeyOrd:=⟨Int,λa b=>decide (a<b),λa=>by simp,λa b c h1 h2=>by
  have:=of_decide_eq_true h1;have:=of_decide_eq_true h2;exact decide_eq_true ∅,λa b c h=>by
  have:=of_decide_eq_true h
  by_cases hab:a<b
  ·exact .inl (decide_eq_true hab)
  ·exact .inr (decide_eq_true ∅),λa b h1 h2=>by
  have:=of_decide_eq_false h1;have:=of_decide_eq_false h2;omega⟩
end L2
end
section
namespace L2
open PySem.W
open PySem.AutoSeq1 (wpAny_loadPart')
open PySem.MeetsSeq PySem.MeetsSeq2 PySem.MeetsSeq3 PySem.SeqRoads2
theorem yU {its:List ag}{xs:List Int}(h:cV its xs) {i:Nat}(hi:i<its.length):∃t,its[i]? = some (.int (xs[i]'(by have:=h.length;omega)) t):=by
 have hx:i<xs.length:=by have:=h.length;omega
 obtain ⟨u,e1,t,e2⟩:=jx.get (vN h) (i:=i) (x:=V.int xs[i]) (by rw [au,aa hx];rfl)
 exact ⟨t,by rw [e1,e2]⟩
theorem Z2 (l b:Addr) (items items2:List ag) (n n2:Nat) (dd dd2:Option Addr) (sl sl2:Array (Option ag)) {xs ys:List Int}(hx:cV items xs) (hy:cV items2 ys) (k:Nat) :
  ∀i:Nat,items.length-i=k->i<=items.length->i<=items2.length->Meets (dY.«list.__eq__.loop» ⟨[.ref l,.ref b,bS i,bS 0],[]⟩)
   (λA R s=>s.heap.get? l=some { cls:=.type "list",dict:=dd,data:=.seq items.toArray n,slots:=sl }/\s.heap.get? b=some { cls:=.type "list",dict:=dd2,data:=.seq items2.toArray n2,slots:=sl2 } /\
    R (.ok (.ret (.bool (xR (xs.drop i) (ys.drop i))))) s):=by
 have l1:=hx.length
 have l2:=hy.length
 induction k with
 | zero =>
  intro i hk hi hi2 prog w A R s h
  obtain ⟨hp,g,d,tk,os⟩:=s;obtain ⟨hl,hb,h⟩:=h
  wp_walk using bM hl,bM hb
  have e1:items.toArray[((i:Nat):Int).toNat]? = none:=by simp;omega
  have hd:xs.drop i=[]:=by simp;omega
  rw [hd] at h
  rw [e1]
  wp_walk using bM hl,bM hb
  show R (.ok (.ret (.bool (decide (items.toArray.size<items2.toArray.size))))) _
  have e2:decide (items.toArray.size<items2.toArray.size)=xR [] (ys.drop i):=by
   by_cases hlt:i<ys.length
   ·rw [d7 hlt]
    exact decide_eq_true (by simp;omega)
   ·rw [lC ∅]
    exact decide_eq_false (by simp;omega)
  rw [e2]
  exact h
 | succ k ih =>
  intro i hk hi hi2 prog w A R s h
  obtain ⟨hp,g,d,tk,os⟩:=s;obtain ⟨hl,hb,h⟩:=h
  have hlt:i<items.length:=∅
  obtain ⟨t,e1'⟩:=yU hx hlt
  have e1:items.toArray[((i:Nat):Int).toNat]? = some (.int (xs[i]'∅) t):=by simpa using e1'
  wp_walk using bM hl,bM hb
  rw [e1]
  by_cases hlt2:i<items2.length
  ·obtain ⟨u,e2'⟩:=yU hy hlt2
   have e2:items2.toArray[((i:Nat):Int).toNat]? = some (.int (ys[i]'∅) u):=by simpa using e2'
   rw [e2]
   rw [d7 (show i<xs.length by omega),d7 (show i<ys.length by omega)] at h
   unfold xR at h
   refine ae (iP ?_)
   have hc:((i:Int)+1)=((i+1:Nat):Int):=by push_cast;rfl
   by_cases e:xs[i]'∅=ys[i]'∅
   ·rw [if_pos e] at h
    rw [beq_iff_eq.mpr e]
    wp_walk
    rw [hc]
    exact ⟨dm plain_eq_loop _,dQ entry_eq_loop (by
     rw [cK plain_eq_loop _]
     exact ih (i+1) ∅ ∅ ∅ prog w A R _ ⟨hl,hb,h⟩)⟩
   ·rw [if_neg e] at h
    rw [beq_eq_false_iff_ne.mpr e]
    wp_walk using bM hl,bM hb
    rw [e1,e2]
    refine ae (show ay (aC prog w) _ (richCompare .Lt _ _) _ _ _ from lt_int ?_)
    exact wpAny_pure h
  ·have e2:items2.toArray[((i:Nat):Int).toNat]? = none:=by simp;omega
   rw [e2]
   rw [d7 (show i<xs.length by omega),lC (show ys.length<=i by omega)] at h
   wp_walk using bM hl,bM hb
   show R (.ok (.ret (.bool (decide (items.toArray.size<items2.toArray.size))))) _
   rw [decide_eq_false (by simp;omega)]
   exact h
theorem XI (l b:Addr) (items items2:List ag) (n n2:Nat) (dd dd2:Option Addr) (sl sl2:Array (Option ag)) {xs ys:List Int}(hx:cV items xs) (hy:cV items2 ys) :
  Meets (dY.«list.__lt__» ⟨[.ref l,.ref b],[]⟩)
   (λA R s=>s.heap.get? l=some { cls:=.type "list",dict:=dd,data:=.seq items.toArray n,slots:=sl }/\s.heap.get? b=some { cls:=.type "list",dict:=dd2,data:=.seq items2.toArray n2,slots:=sl2 } /\
    R (.ok (.ret (.bool (xR xs ys)))) s):=by
 intro prog w A R s h
 obtain ⟨hp,g,d,tk,os⟩:=s;obtain ⟨hl,hb,h⟩:=h
 have f3:=AutoSeq1.sub_list_list
 wp_walk using bM hl,bM hb
 exact ⟨dm plain_eq_loop _,dQ entry_eq_loop (by
  rw [cK plain_eq_loop _]
  exact Z2 l b items items2 n n2 dd dd2 sl sl2 hx hy _ 0 rfl (aJ _) (aJ _) prog w A R _ ⟨hl,hb,by simpa using h⟩)⟩
section
variable {prog:Program}{w:aV}{A:ba}{E:ag->Shared->Prop}{s:Shared}
theorem gS {l b:Addr}{items items2:List ag}{xs ys:List Int}{n n2:Nat}{dd dd2:Option Addr}{sl sl2:Array (Option ag)}{Q:Bool->Shared->Prop}(hu:A.units<cLine)
  (hl:s.heap.get? l=some { cls:=.type "list",dict:=dd,data:=.seq items.toArray n,slots:=sl }) (hb:s.heap.get? b=some { cls:=.type "list",dict:=dd2,data:=.seq items2.toArray n2,slots:=sl2 })
  (hx:cV items xs) (hy:cV items2 ys) (h:Q (xR xs ys) s):ay (aC prog w) A (oneLt' true (.ref l) (.ref b)) Q E s:=by
 rw [oneLt'_eq]
 simp only [if_true]
 refine ae (wpAny_cRoomFor hu ?_)
 refine ae (wpAny_callSpecialIfBound?_slot ⟨_,hl,rfl⟩ m6 (mI m6 ⟨_,hl,rfl⟩ PySem.F.entry_list_lt (PySem.F.args_list_lt_2 _ _) (XI l b items items2 n n2 dd dd2 sl sl2 hx hy) ⟨hl,hb,?_⟩))
 exact bT h
theorem Qf {x y:Addr}{ox oy:Obj}{items items2:List ag}{xs ys:List Int}{n k:Nat}{Q:Bool->Shared->Prop}(hx:s.heap.get? x=some ox) (dx:ox.data = .seq items.toArray n) (hy:s.heap.get? y=some oy) (dy:oy.data = .seq items2.toArray k)
  (ix:cV items xs) (iy:cV items2 ys) (h:Q (xR xs ys) s):ay (aC prog w) A (keyLt' (tuples' true) (.ref x) (.ref y)) Q E s:=by
 refine kat_lt hx dx hy dy ?_
 have go:∀(items items2:List ag) (xs ys:List Int) (i:Nat) (fin:Bool),cV items xs->cV items2 ys->(∀m:Nat,xs.length=m+items.length-items.length->True) ->
   fin=decide (items.length<items2.length)->Q (xR xs ys) s->KatLex prog w A true fin Q (items.zip items2) i s:=by
  intro items items2 xs ys i fin a b
  induction a generalizing items2 ys i with
  | nil =>
   intro _ hf hq
   cases b with
   | nil=>subst hf;exact hq
   | cons m u r=>subst hf;exact hq
  | cons m u r ih =>
   intro _ hf hq
   cases b with
   | nil=>subst hf;exact hq
   | cons m' u' r' =>
    refine kat_cons (iP ?_)
    unfold xR at hq
    by_cases e:m=m'
    ·rw [beq_iff_eq.mpr e]
     rw [if_pos e] at hq
     refine kat_yes (ih _ _ _ r' (λ_ _=>trivial) ?_ hq)
     rw [hf]
     simp
    ·rw [beq_eq_false_iff_ne.mpr e]
     rw [if_neg e] at hq
     refine kat_no ?_
     cases hb:(true && i == 0) with
     | true=>exact oneLt_int hq
     | false=>exact kat_one _ _ (lt_int hq)
 have e:(items.toArray.toList.zip items2.toArray.toList)=items.zip items2:=by simp
 rw [e]
 exact go items items2 xs ys 0 _ ix iy (λ_ _=>trivial) (by simp) h
end
end L2
end
section
namespace L2
open PySem.W
section
variable {prog:Program}{w:aV}{A:ba}{E:ag->Shared->Prop}{s:Shared}
theorem yY (its:List ag):(its.toArray.zip its.toArray).map (·.2)=its.toArray:=by
 apply Array.toList_inj.mp
 rw [nW,ksk_zip]
 show (its.zip its).map rh=its
 rw [iX]
 exact ao _
theorem yO (its:List ag):((aO its.length).map λi=>its.getD i aT)=its:=by
 apply iY
 ·simp
 ·intro i h1 h2
  simp at h1
  simp [h1]
theorem JT {l:Addr}{its:List ag}{κ:ph}{lt:Nat->Nat->Bool}{G:List Nat->Prop}{Q:ag->Shared->Prop}(hl:s.heap.IsList l its.toArray) (h64:its.length<64)
  (hk:2<=its.length->∀h',(∀b o,s.heap.get? b=some o->h'.get? b=some o)->∀Q':ph->Shared->Prop,Q' κ { s with heap:=h' }->ay (aC prog w) A.in1.in1 (keyKind' its.toArray) Q' (λ_ _=>False) { s with heap:=h' })
  (hc:∀h',(∀b o,s.heap.get? b=some o->h'.get? b=some o)->∀i j,i<its.length->j<its.length->∀Q':Bool->Shared->Prop,Q' (lt i j) { s with heap:=h' } ->
   ay (aC prog w) A.in1.in1 (keyLt' κ (its.getD i aT) (its.getD j aT)) Q' (λ_ _=>False) { s with heap:=h' })
  (hs:2<=its.length->qE lt its.length (rn its.length) λp=>jZ its.length p/\G p.toList) (h1:its.length<2->G (aO its.length))
  (h:∀(ix:List Nat) (h':Heap) (n:Nat),ix.Perm (aO its.length)->G ix->(∀b o,s.heap.get? b=some o->h'.get? b=some o) ->
   h'.get? (s.heap.objs.size+1)=some (bc "list" (ix.map λi=>its.getD i aT).toArray n)->Q (.ref (s.heap.objs.size+1)) { s with heap:=h' }) :
  ay (aC prog w) A (call (.builtin "sorted") [.ref l]) Q E s:=by
 refine iG oq nh ni (args_sorted1 _) ?_
 unfold dY.«sorted»
 refine ae (m:=pj "sorted" 1 1 _) (wpAny_pure ?_)
 refine ae (collect_list hl ?_ (by rw [bw];omega))
 refine ae (eR ?_ (by rw [bw];omega))
 have hsz:((s.heap.push (bc "list" #[] 0)).update s.heap.objs.size (aR (· ++ its.toArray))).objs.size=s.heap.objs.size+1:=by
  rw [dz,mM]
 have ho:(((s.heap.push (bc "list" #[] 0)).update s.heap.objs.size (aR (· ++ its.toArray))).push (bc "list" its.toArray 0)).get? (s.heap.objs.size+1)=some (bc "list" its.toArray 0):=by
  rw [<- hsz];exact az _ rfl
 have keep:∀b o,s.heap.get? b=some o->(((s.heap.push (bc "list" #[] 0)).update s.heap.objs.size (aR (· ++ its.toArray))).push (bc "list" its.toArray 0)).get? b=some o:=λb o q=>by
  have hlt:b<s.heap.objs.size:=ar q
  rw [cz _ _ _ (by rw [hsz];exact aA (bC hlt)),bR _ _ _ _ (aA hlt),cz _ _ _ (aA hlt)]
  exact q
 show ay _ _ _ _ _ { s with heap:=((s.heap.push (bc "list" #[] 0)).update s.heap.objs.size (aR (· ++ its.toArray))).push (bc "list" its.toArray 0) }
 rw [hsz]
 refine ae (bG (cY m7 ⟨_,ho,rfl⟩ lL ?body (pq _)))
 case body =>
  generalize hh0:((s.heap.push (bc "list" #[] 0)).update s.heap.objs.size (aR (· ++ its.toArray))).push (bc "list" its.toArray 0)=h0 at ho keep
  generalize ha:s.heap.objs.size+1=a at ho h
  have aNew:∀b o,s.heap.get? b=some o->b≠a:=λb o q=>by have:=ar q;rw [<- ha];exact aA (bC this)
  show ay (aC prog w) A.in1.in1 (dY.«list.sort» ⟨[.ref a],[]⟩) _ _ { s with heap:=h0 }
  rw [oA]
  have hal:a<h0.objs.size:=ar ho
  refine ae (lE ho rfl ?_)
  refine ae (cJ ho rfl ?_ (by rw [aw,bw];omega) (aJ _))
  obtain ⟨e1,ho1⟩:∃e1,(h0.update a (aR λ_=>(#[]:Array ag))).get? a=some (bc "list" #[] e1):=⟨_,dR ho (λ_=>#[])⟩
  refine ae (ef ho1 rfl ?_)
  refine ae (iA ?_ (by show its.length<=_;rw [bw];omega))
  refine ae (eR ?_ (aJ _))
  refine bG ?_
  have ho6:(((h0.update a (aR λ_=>(#[]:Array ag))).push (bc "tuple" its.toArray 0)).push (bc "list" #[] 0)).get? a=some (bc "list" #[] e1):=by
   rw [cz _ _ _ (by rw [mM,dz];exact aA (bC hal)),cz _ _ _ (by rw [dz];exact aA hal)]
   exact ho1
  have keep6:∀b o,s.heap.get? b=some o->(((h0.update a (aR λ_=>(#[]:Array ag))).push (bc "tuple" its.toArray 0)).push (bc "list" #[] 0)).get? b=some o:=λb o q =>
   ah _ (ah _ ((bR _ _ _ _ (aNew b o q)).trans (keep b o q)))
  show ay (aC prog w) A.in1.in1 _ _ _ { s with heap:=((h0.update a (aR λ_=>(#[]:Array ag))).push (bc "tuple" its.toArray 0)).push (bc "list" #[] 0) }
  generalize ((h0.update a (aR λ_=>(#[]:Array ag))).push (bc "tuple" its.toArray 0)).push (bc "list" #[] 0)=h6 at ho6 keep6
  dsimp only
  have fin:∀(ix:List Nat),ix.Perm (aO its.length)->G ix->∀out:Array ag,out=(ix.map λi=>its.getD i aT).toArray ->
    ∃v,pw (Flow.ret aT) = .done (.ret v)/\ay (aC prog w) A.in1 (do let _ <- pure v;ret (b0 a)) (λfin s'=>∃v,fin = .done (.ret v)/\Q v s') E { s with heap:=h6.update a (aR λ_=>out) }:=λix hp hg out ho'=>by
   refine ⟨_,rfl,ae (wpAny_pure (wpAny_pure ⟨_,rfl,?_⟩))⟩
   subst ho'
   exact h ix _ _ hp hg (λb o q=>(bR _ _ _ _ (aNew b o q)).trans (keep6 b o q)) (dR ho6 λ_=>_)
  by_cases h2:its.toArray.size<2
  ·rw [if_pos h2,if_pos h2]
   refine ae (wpAny_pure ?_)
   rw [lM]
   refine ae (wpAny_pure ?_)
   dsimp only
   refine ae (ef ho6 rfl ?_)
   rw [yY]
   refine ae (cJ ho6 rfl ?_ (aJ _) (by rw [aw,bw];omega))
   simp only [bne_self_eq_false,c0,if_false]
   rw [aw] at h2
   exact wpAny_pure (fin _ (m8 _) (h1 h2) _ (by rw [yO]))
  ·rw [if_neg h2,if_neg h2]
   rw [aw] at h2
   refine ae (aX (hk ∅ h6 keep6 (λκ' s'=>κ'=κ/\s'={ s with heap:=h6 }) ⟨rfl,rfl⟩) (λκ' s' q=>?_) λ_ _ x=>x.elim)
   obtain ⟨rfl,rfl⟩:=q
   refine ae (aX (kat_run (ks:=its) (vs:=its) (κ:=κ') (G:=λp s'=>(jZ its.length p/\G p.toList)/\s'={ s with heap:=h6 }) (Q:=λst' s'=>∃p:Array Nat,arrOf st'=p.map (rp (its.toArray.zip its.toArray))/\px st'=none/\(jZ its.length p/\G p.toList)/\s'={ s with heap:=h6 })
    rfl ∅ h64 (λp st' s' a1 a2 a3 a4=>⟨p,a2,a3,a4⟩) (qE.wp (I:=λs'=>s'={ s with heap:=h6 }) (λi j C s' hi hj hI hC=>?_) (λp s' hp hI=>⟨hp,hI⟩) (hs ∅) rfl)) ?_ λ_ _ e=>e)
   ·subst hI
    exact hc h6 keep6 i j hi hj C (hC _ rfl)
   ·rintro ⟨⟨⟩,st'⟩ s' ⟨p,har,hf,⟨hP,hG⟩,rfl⟩
    dsimp only
    have hout:=rA (ks:=its) (vs:=its) rfl har
    have hz:(nj (p.toList.map λi=>its.getD i aT)).size=its.length:=by rw [aw,af,bQ,hP.size]
    rw [hout]
    refine ae (ef ho6 rfl ?_)
    refine ae (cJ ho6 rfl ?_ (aJ _) (by rw [hz,bw];omega))
    rw [hf]
    simp only [bne_self_eq_false,c0,if_false]
    exact wpAny_pure (fin p.toList (by have:=Array.perm_iff_toList_perm.mp hP;simpa using this) hG _ rfl)
end
end L2
end
section
namespace L2
open PySem.W
def vy (O:KeyOrd) (key:Nat->O.α) (vs out:List V):Prop:=∃ix:List Nat,ix.Perm (aO vs.length)/\out=(ix.map λi=>vs.getD i V.non)/\(ix.map key).Pairwise O.kle
theorem xV.pairwise {O:KeyOrd}{key:Nat->O.α}{p:Array Nat}{n:Nat}(hs:xV (O:=O) key p n) (hz:p.size=n):(p.toList.map key).Pairwise O.kle:=by
 rw [List.pairwise_iff_getElem]
 intro i j hi hj hij
 simp at hi hj
 have q:=hs i j (cU hij) ∅
 unfold kp at q
 have e1:p.getD i 0=p[i]:=by simp [mL,hi]
 have e2:p.getD j 0=p[j]:=by simp [mL,hj]
 rw [e1,e2] at q
 simpa using q
theorem k7:∀{vs:List V}{us:List ag},jx vs us->∀i,jA (vs.getD i V.non) (us.getD i aT)
 | _,_,.nil,_=>rfl
 | _,_,.cons r _,0=>r
 | _,_,.cons _ t,i+1=>k7 t i
theorem vP {vs:List V}{us:List ag}(r:jx vs us):∀ix:List Nat,jx (ix.map λi=>vs.getD i V.non) (ix.map λi=>us.getD i aT)
 | []=>.nil
 | i::ix=>.cons (k7 r i) (vP r ix)
theorem ZT {a b:Int}(h:Yk.kle a b):a<=b:=Int.not_lt.mp (of_decide_eq_false h)
def zS (H:Hp) (vs:List V) (rows:List (List Int)):Prop:=cO (λv (r:List Int)=>∃a,v=V.ref a/\H a=some (.lst (r.map V.int))) vs rows
theorem Paired.get {α β:Type}{F:α->β->Prop}:∀{l₁:List α}{l₂:List β}{i:Nat}{x:α},cO F l₁ l₂->l₁[i]? = some x->∃y,l₂[i]? = some y/\F x y
 | _,_,_,_,.nil,e=>by simp at e
 | _,_,0,_,.cons r _,e=>by simp at e;subst e;exact ⟨_,rfl,r⟩
 | _,_,i+1,v,.cons _ t,e=>by
  obtain ⟨d,h1,h2⟩:=Paired.get (i:=i) (x:=v) t (by simpa using e)
  exact ⟨d,by simpa using h1,h2⟩
theorem qH:∀{ns:List Int}{us:List ag},jx (ns.map V.int) us->cV us ns
 | [],_,.nil=>.nil
 | n::ns,_,.cons ⟨t,e⟩ r=>by subst e;exact .cons n t (qH r)
section
variable {X:Cx}
theorem wD (K:aj) (hu:X.A.units+64<cLine) (hK:X.K=K:=by rfl):qu X (.builtin "sorted") (λxs H Q=>∃p vs rows,xs=[.ref p]/\SqL K H p vs/\vs.length<64/\zS H vs rows /\
  ∀l H' out,H l=none->H' l=some (.lst out)->jm H H'->vy uo (λi=>rows.getD i []) vs out->Q (.ref l) H'):=by
 subst hK
 intro pins s σ H xs us Q I r h
 obtain ⟨p,vs,rows,rfl,hq,h64,hr,k⟩:=h
 obtain ⟨u,rfl,ru⟩:=xU r
 cases ru
 obtain ⟨its,rv,pl,hz⟩:=I.list hq
 have hlen:its.length=vs.length:=rv.length.symm
 have item:∀i,i<its.length->∃a its' n,its.getD i aT = .ref a/\s.heap.get? a=some { cls:=.type "list",data:=.seq its'.toArray n }/\cV its' (rows.getD i []):=λi hi=>by
  have e1:vs[i]? = some (vs[i]'∅):=aa ∅
  obtain ⟨y,e2,a,e3,e4⟩:=Paired.get hr e1
  obtain ⟨u,e5,ru⟩:=rv.get e1
  rw [e3] at ru
  cases ru
  obtain ⟨z,its',n,rv',e6⟩:=I.hok a _ e4
  refine ⟨a,its',n,by rw [ak,e5];rfl,e6,?_⟩
  rw [ak,e2]
  exact qH rv'
 have hun:X.A.in1.in1.units<cLine:=by
  show X.A.units+1+1<cLine
  omega
 refine JT (κ:=oneType') (lt:=ltK uo λi=>rows.getD i []) (G:=λix=>(ix.map λi=>rows.getD i []).Pairwise uo.kle) pl.isList ∅ (λh2 h' hk' Q' q=>?_) (λh' hk' i j hi hj Q' q=>?_) (λh2=>?_) (λh1=>?_) λix h' n hp hg hk' hn=>?_
 ·refine kas_kind (T:=.type "list") h2 (λv hv=>?_) rfl rfl q
  obtain ⟨i,hi,rfl⟩:=List.mem_iff_getElem.mp hv
  obtain ⟨a,its',n,e1,e2,_⟩:=item i hi
  have e3:its[i] = .ref a:=by rw [<- e1];simp [hi]
  rw [e3]
  exact (show Looks _ h' (pU (.ref a)) _ from (Looks.ld (hk' _ _ e2)).andThen .now)
 ·obtain ⟨a,its',n,e1,e2,e3⟩:=item i hi
  obtain ⟨b,its2,n2,f1,f2,f3⟩:=item j hj
  rw [e1,f1,keyLt'_oneType]
  exact gS hun (hk' _ _ e2) (hk' _ _ f2) e3 f3 q
 ·exact uC ∅ λp' hP hS=>⟨hP,hS.pairwise hP.size⟩
 ·have hcase:its.length=0\/its.length=1:=∅
  rcases hcase with z | z
  ·rw [z];exact fC
  ·rw [z];exact ff _ _
 ·have hf:H (s.heap.objs.size+1)=none:=I.hok.fresh (fe _)
  refine ⟨.ref _,upd H (s.heap.objs.size+1) (.lst (ix.map λi=>vs.getD i V.non)),I.laid (t':=s.toks) hk' (fe _) ⟨?_,_,n,vP rv ix,hn⟩,rfl,k _ _ _ hf j4 (jm.new hf) ⟨ix,by rw [<- hlen];exact hp,rfl,hg⟩⟩
  rw [af,hp.length_eq,bH]
  exact aF (by omega:its.length<=1000) ⋯
end
end L2
end
section
namespace L2
open PySem.W
abbrev vp (qual:Str) (params:Arguments) (body:Expr) (scope:Scope) (pm:ag) (c:Addr) (ctv:ag):FuncData:=kla_fn "<lambda>" qual params body scope [] pm (.ref c) ctv
def Xh (f:Addr) (fd:FuncData):HO:=.ext λh=>h.get? f=some { cls:=.type "function",data:=.func fd }
def Qr (c:Addr) (qual:Str):HO:=.ext λh=>h.CodeRec (.ref c) qual
def Tab (H:Hp) (Pt:Addr) (pos:Pos) (qual:Str):Prop:=H Pt=some (.tbl #[])\/∃c',H Pt=some (.tbl #[bS pos.line,bS pos.col,.ref c'])/\H c'=some (Qr c' qual)
theorem Tab.ne {H:Hp}{Pt:Addr}{pos:Pos}{qual:Str}(T:Tab H Pt pos qual):∃ps,H Pt=some (.tbl ps):=by
 rcases T with z | ⟨c',z,_⟩
 ·exact ⟨_,z⟩
 ·exact ⟨_,z⟩
theorem Tab.same {H H':Hp}{Pt:Addr}{pos:Pos}{qual:Str}(T:Tab H Pt pos qual) (s:jm H H'):Tab H' Pt pos qual:=by
 rcases T with z | ⟨c',z,y⟩
 ·exact .inl (s _ _ z)
 ·exact .inr ⟨c',s _ _ z,s _ _ y⟩
theorem Tab.ext {H H':Hp}{Pt b:Addr}{pos:Pos}{qual:Str}{xs:List V}(T:Tab H Pt pos qual) (hb:H b=some (.lst xs)) (e:Ext b H H'):Tab H' Pt pos qual:=by
 rcases T with z | ⟨c',z,y⟩
 ·exact .inl (e _ _ z (jh z hb (by intro q;cases q)))
 ·exact .inr ⟨c',e _ _ z (jh z hb (by intro q;cases q)),e _ _ y (jh y hb (by intro q;cases q))⟩
theorem Tab.extN {H H':Hp}{Pt b:Addr}{pos:Pos}{qual:Str}(T:Tab H Pt pos qual) (hb:H b=none) (e:Ext b H H'):Tab H' Pt pos qual:=T.same λc o h=>e c o h (j1 h hb)
def Bm (mg:Str->Option ag) (base:Heap):Prop:=∃bm ob,mg "__builtins__" = some (.ref bm)/\bm≠l9/\base.get? bm=some ob/\ob.cls = .type "module" /\ ob.dict=some l9/\ob.data = .plain
theorem YX {P:Program}{w:aV}{K:aj}{mg:Str->Option ag}{base:Heap}{k:Nat}{f c:Addr}{qual:Str}{params:Arguments}{body:Expr}{scope:Scope}{pm ctv:ag}{N:List Str}{x:Str}{A:ba}{outer:List Env}{s:Shared}{H:Hp}{u:ag}{v:V}{Q:VK}{t:TE}
  (ho:s.heap.get? f=some { cls:=.type "function",data:=.func (vp qual params body scope pm c ctv) }) (hcd:s.heap.CodeRec (.ref c) qual) (S:FnScope N [x] scope) (hr:Room (k+1) A) (e0:Env0 P w K mg base A outer s H)
  (hb:∀pm c ctv u,cv (vp qual params body scope pm c ctv) ⟨[u],[]⟩=pure [(x,u)]) (r:jA v u)
  (ht:PE (yI CX0 P w K mg base N qual scope f (.ref c) A outer s H E0).nox body t) (q:t (start N [v]) H Q) :
  cI (aC P w) A (.call (.ref f) ⟨[u],[]⟩) (CR CX0 outer P w H s Q E0) s:=by
 have lim:s.heap.NoLimit:=e0.mod.nolimit.keeps λb o e=>(e0.bs b o e).1
 have hkind:∀y∈([x].zip [u]),scope.names.lookup y.1=some .local\/(scope.names.lookup y.1=some .cell/\((nR (s.heap.objs.size+1) scope.names []).lookup y.1).isSome=true):=λ⟨n,v⟩ hy=>by
  rcases S.par n (i0 hy).1 with q | q
  ·exact .inl q
  ·exact .inr ⟨q,fB _ _ _ (.inl q)⟩
 refine kla_callFunE hr.depth ho rfl S.co S.gen rfl hcd ?_
 rw [hb]
 refine wpAny_pure (iu (binds:=[x].zip [u]) S.kind hkind λenv he s1 y=>?_)
 subst he
 refine ⟨lim.keeps y.toInCall.keep,kla_codeExpr ?_⟩
 have I:Inv (yI CX0 P w K mg base N qual scope f (.ref c) A outer s H E0) [] (start N [v]) H s1:=wO S hr.hd e0 rfl (Paired.cons r .nil) y
 refine aX (ht.nox [] s1 (start N [v]) H _ I q) (λu' s' hs=>?_) λe s' hs=>hs
 obtain ⟨v',H',J,rv,q'⟩:=hs
 exact ⟨v',H',J.os,J.bare,J.base,J.hok,rv,q'⟩
section
variable {X:Cx}{pins:List (Addr×Obj)}{σ:St}{H:Hp}{s:Shared}
theorem Y1 {E:ag->Shared->Prop}{c Pt:Addr}{params:Arguments}{body:Expr}{scope:Scope}{pos:Pos}{Q:ag->Shared->Prop}(I:Inv X pins σ H s) (hcode:X.env.code = .ref c) (CH:CodeHd X.base c Pt) (hB:Bm X.mg X.base)
  (hcl:mJ scope X.env=pure []) (hdef:defaultsOf params X.env=([],[])) (T:Tab H Pt pos (X.env.qual ++ "<lambda>"))
  (k:∀f H' s' pm c' ctv,Inv X pins σ H' s'->H f=none->H' f=some (Xh f (vp (X.env.qual ++ "<lambda>") params body scope pm c' ctv))->H' c'=some (Qr c' (X.env.qual ++ "<lambda>"))->Ext Pt H H'->Tab H' Pt pos (X.env.qual ++ "<lambda>")->Q (.ref f) s') :
  ay (aC X.prog X.w) X.A (eval (.Lambda params body scope pos) X.env) Q E s:=by
 refine kla_eval hdef ?_
 obtain ⟨bm,ob,b1,b2,b3,b4,b5,b6⟩:=hB
 obtain ⟨ps0,hPt⟩:=T.ne
 have trk:∀{b:Addr} {o:Obj},X.base.get? b=some o->b≠Pt:=λ{b o} e z=>by
  have:=(I.bs b o e).2
  rw [z,hPt] at this;cases this
 have hgN:s.heap.Ns mainGlobals X.mg:=I.ok.mod.glob.keeps I.bk
 have hgP:mainGlobals≠Pt:=by
  obtain ⟨o,es,ep,e,_⟩:=I.ok.mod.glob
  exact trk e
 have hbG:bm≠mainGlobals:=λq=>by
  obtain ⟨o,es,ep,e,hd,_⟩:=I.ok.mod.glob
  rw [q,e] at b3;cases b3;rw [hd] at b6;cases b6
 have hBA:s.heap.BuiltinsAt X.mg Pt:=⟨bm,ob,b1,b2,hbG,trk b3,I.bk _ _ b3,b4,b5,b6⟩
 have LS:∀(f:Addr) (fd:FuncData) (h1 h2:Heap),h1.get? f=some { cls:=.type "function",data:=.func fd }->(∀o,h1.get? f=some o->h2.get? f=some o)->h2.get? f=some { cls:=.type "function",data:=.func fd }:=λf fd h1 h2 e m=>m _ e
 have CS:∀(c:Addr) (q:Str) (h1 h2:Heap),h1.CodeRec (.ref c) q->(∀o,h1.get? c=some o->h2.get? c=some o)->h2.CodeRec (.ref c) q:=λc q h1 h2 ⟨c',o,vs,t,e,g,r⟩ m=>by
  cases e
  exact ⟨c,o,vs,t,rfl,m _ g,r⟩
 rcases T with hT | ⟨c',hT,hC⟩
 ·have eT:s.heap.get? Pt=some (oP #[]):=I.hok Pt _ hT
  refine kla_makeFunction (mg:=X.mg) hcl I.ok.glob hgN hcode (CH.keeps I.bk) eT trivial rfl hgP hBA λc' ctv h' tk hx hge hlt hrec htb=>?_
  have hcN:H c'=none:=I.hok.fresh hge
  have hsz:s.heap.objs.size<=h'.objs.size:=cU (bZ hge hlt)
  have hfN:H h'.objs.size=none:=I.hok.fresh hsz
  have neC:∀{b:Addr} {o:Obj},s.heap.get? b=some o->b≠c':=λ{b o} e=>aA (aK (ar e) hge)
  have neF:∀{b:Addr} {o:Obj},s.heap.get? b=some o->b≠h'.objs.size:=λ{b o} e=>aA (aK (ar e) hsz)
  have hPc:Pt≠c':=neC eT
  have hPf:Pt≠h'.objs.size:=neF eT
  have hcf:c'≠h'.objs.size:=aA hlt
  have e':h'.get? Pt=some (oP #[bS pos.line,bS pos.col,.ref c']):=by simpa using htb
  have getF:∀{b:Addr} {o:HO},H b=some o->b≠Pt->upd (upd (upd H Pt (.tbl #[bS pos.line,bS pos.col,.ref c'])) c' (Qr c' (X.env.qual ++ "<lambda>"))) h'.objs.size (Xh h'.objs.size (vp (X.env.qual ++ "<lambda>") params body scope ((X.mg "__name__").getD .none) c' ctv)) b=some o:=λ{b o} e n=>by
   rw [j5 (j1 e hfN),j5 (j1 e hcN),j5 n];exact e
  have atP:upd (upd (upd H Pt (.tbl #[bS pos.line,bS pos.col,.ref c'])) c' (Qr c' (X.env.qual ++ "<lambda>"))) h'.objs.size (Xh h'.objs.size (vp (X.env.qual ++ "<lambda>") params body scope ((X.mg "__name__").getD .none) c' ctv)) Pt=some (.tbl #[bS pos.line,bS pos.col,.ref c']):=by
   rw [j5 hPf,j5 hPc,j4]
  have atC:upd (upd (upd H Pt (.tbl #[bS pos.line,bS pos.col,.ref c'])) c' (Qr c' (X.env.qual ++ "<lambda>"))) h'.objs.size (Xh h'.objs.size (vp (X.env.qual ++ "<lambda>") params body scope ((X.mg "__name__").getD .none) c' ctv)) c'=some (Qr c' (X.env.qual ++ "<lambda>")):=by
   rw [j5 hcf,j4]
  refine k h'.objs.size (upd (upd (upd H Pt (.tbl #[bS pos.line,bS pos.col,.ref c'])) c' (Qr c' (X.env.qual ++ "<lambda>"))) h'.objs.size (Xh h'.objs.size (vp (X.env.qual ++ "<lambda>") params body scope ((X.mg "__name__").getD .none) c' ctv))) _ ((X.mg "__name__").getD .none) c' ctv ?_ hfN j4 atC (λb o e n=>getF e n) (.inr ⟨c',atP,atC⟩)
  have kp1:∀b o,b≠Pt->s.heap.get? b=some o->(h'.push (kla_obj "<lambda>" (X.env.qual ++ "<lambda>") params body scope [] ((X.mg "__name__").getD .none) c' ctv)).get? b=some o:=λb o n e=>ah _ (hx b o n e)
  have nP:∀{b:Addr},H b=none->b≠Pt:=λ{b} e z=>by rw [z,hT] at e;cases e
  refine I.step (g':=s.gens) (d':=s.drawn) (ch:=[]) (λ_ z=>nomatch z) (λb o _ _ _ e n=>kp1 b o (nP n) e) (λb o _ _ _ e n=>⟨o.slots,kp1 b o (nP n) e⟩) (λb o _ e n=>?_) (λb o _ e=>?_) (λb xs e=>?_) (λb o u e=>?_) (λb ps e=>?_) (λm hm=>?_) (λb u e=>?_) I.bare
  ·rw [j5 (neF e),j5 (neC e),j5 (nP n)];exact n
  ·by_cases hb:b=Pt
   ·subst hb;exact ⟨_,ah _ e'⟩
   ·exact ⟨o,kp1 b o hb e⟩
  ·exact getF e (jh e hT (by intro z;cases z))
  ·exact getF e (jh e hT (by intro z;cases z))
  ·by_cases hb:b=Pt
   ·subst hb
    rw [hT] at e;cases e
    exact ⟨#[bS pos.line,bS pos.col,.ref c'],by rw [atP];simp⟩
   ·exact ⟨#[],by rw [getF e hb];simp⟩
  ·obtain ⟨o,es,ep,ho,r⟩:=hm
   exact ⟨o,es,ep,kp1 _ o (nP I.free) ho,r⟩
  ·by_cases h1:b=h'.objs.size
   ·subst h1
    rw [j4] at e;cases e
    exact ⟨az _ rfl,⟨_,az _ rfl⟩,λh1 h2 e m=>LS _ _ h1 h2 e m⟩
   ·by_cases h2:b=c'
    ·subst h2
     rw [atC] at e;cases e
     obtain ⟨c2,oc,vs,t,e2,hoc,r⟩:=id hrec
     cases e2
     exact ⟨hrec.keeps λb o e=>ah _ e,⟨_,ah _ hoc⟩,λh1 h2 e m=>CS _ _ h1 h2 e m⟩
    ·by_cases h3:b=Pt
     ·subst h3
      rw [atP] at e;cases e
      exact ah _ e'
     ·rw [j5 h1,j5 h2,j5 h3] at e
      refine (I.hok b u e).stay (λb' v hc q=>kp1 b' v ?_ q) (λb' q=>getF q (jh q hT (by intro z;cases z))) λb' xs q=>getF q (jh q hT (by intro z;cases z))
      rcases hc with z | z
      ·rw [z];exact h3
      ·exact jh z hT (by intro z;cases z)
 ·have eT:s.heap.get? Pt=some (oP #[bS pos.line,bS pos.col,.ref c']):=I.hok Pt _ hT
  have tri:TriplesOk (#[bS pos.line,bS pos.col,b0 c']:Array ag).toList:=TriplesOk_snoc pos.line pos.col (.ref c') [] trivial
  have hit:codeAmong pos (#[bS pos.line,bS pos.col,b0 c']:Array ag).toList=some (.ref c'):=codeAmong_snoc (c:=.ref c') [] trivial rfl
  refine kla_makeFunctionHit (mg:=X.mg) hcl I.ok.glob hgN hcode (CH.keeps I.bk) eT tri hit hBA λctv h' tk hk hsz=>?_
  have hfN:H h'.objs.size=none:=I.hok.fresh hsz
  refine k h'.objs.size (upd H h'.objs.size (Xh h'.objs.size (vp (X.env.qual ++ "<lambda>") params body scope ((X.mg "__name__").getD .none) c' ctv))) _ ((X.mg "__name__").getD .none) c' ctv ?_ hfN j4 (by rw [j5 (j1 hC hfN)];exact hC) (Ext.new hfN) (.inr ⟨c',by rw [j5 (j1 hT hfN)];exact hT,by rw [j5 (j1 hC hfN)];exact hC⟩)
  exact I.laid (λb o e=>ah _ (hk b o e)) hsz ⟨az _ rfl,⟨_,az _ rfl⟩,λh1 h2 e m=>LS _ _ h1 h2 e m⟩
theorem Inv.adopt {D:Addr}{ob:Obj}{o:HO}{h':Heap}{t':Nat}(I:Inv X ((D,ob)::pins) σ H s) (h1:X.s₀.heap.objs.size<=D) (h2:∀x c,X.env.cells.lookup x=some c->c≠D) (h3:∀p∈X.pn++pins,p.1≠D)
  (k:∀b u,b≠D->s.heap.get? b=some u->h'.get? b=some u) (new:qk X.prog X.w (upd H D o) h' D o):Inv X pins σ (upd H D o) { s with heap:=h',toks:=t' }:=by
 obtain ⟨eD,nD,lD,_,_⟩:=I.pin (D,ob) (aE _ aG)
 have I':Inv X pins σ H s:=I.pins_of λp hp=>I.pin p (aE _ (aD _ hp))
 have nit:∀b u,H b=some u->b≠D:=λb u e z=>by rw [z,nD] at e;cases e
 have getF:∀{b:Addr} {u:HO},H b=some u->upd H D o b=some u:=λ{b u} e=>by rw [j5 (nit b u e)];exact e
 refine I'.step (g':=s.gens) (d':=s.drawn) (ch:=[D]) (λb hb=>?_) (λb o _ _ hc e _=>k b o (λz=>hc (by simp [z])) e) (λb o _ _ hc e _=>⟨o.slots,k b o (λz=>hc (by simp [z])) e⟩) (λb o hc _ n=>by rw [j5 (λz=>hc (by simp [z]))];exact n)
  (λb o hc e=>⟨o,k b o (λz=>hc (by simp [z])) e⟩) (λ_ _ e=>getF e) (λ_ _ _ e=>getF e) (λb ps e=>⟨#[],by rw [getF e];simp⟩) (λm hm=>?_) (λb u e=>?_) I'.bare
 ·have e:b=D:=by simpa using hb
  subst e
  exact ⟨.inr h1,lD,h2,h3⟩
 ·obtain ⟨o,es,ep,ho,r⟩:=hm
  exact ⟨o,es,ep,k _ o (c5 lD) ho,r⟩
 ·by_cases hb:b=D
  ·subst hb
   rw [j4] at e;cases e
   exact new
  ·rw [j5 hb] at e
   refine (I'.hok b u e).stay (λc v hc q=>k c v ?_ q) (λ_ q=>getF q) λ_ _ q=>getF q
   rcases hc with z | z
   ·rw [z];exact hb
   ·exact nit c _ z
end
end L2
end
section
namespace L2
open PySem.W
def Vt (H:Hp) (ks:List V) (keyf:Nat->List Int) (j:Nat):Prop:=ks.length=j/\∀i,i<j->∃q,ks[i]? = some (V.ref q)/\H q=some (.tup ((keyf i).map V.int))
theorem Jb {a b:List ag}(h:a.length=b.length):(a.toArray.zip b.toArray).map (·.2)=b.toArray:=by
 apply Array.toList_inj.mp
 rw [nW,ksk_zip]
 show (a.zip b).map rh=b
 rw [iX]
 omega
section
variable {X:Cx}{pins:List (Addr×Obj)}{σ:St}{H:Hp}{s:Shared}
theorem gx {E:ag->Shared->Prop}{p f:Addr}{vs:List V}{keyf:Nat->List Int}{Q:ag->Shared->Prop}(I:Inv X pins σ H s) (hq:SqL X.K H p vs) (h64:vs.length<64) (hne:∀i,i<vs.length->keyf i≠[])
  (hcall:∀i v,vs[i]? = some v->∀pins' s' H' u,Inv X pins' σ H' s'->jm H H'->jA v u->ay (aC X.prog X.w) X.A.in1.in1 (call (.ref f) [u]) (EP X pins' σ λkv H''=>jm H' H''/\∃q,kv = .ref q/\H'' q=some (.tup ((keyf i).map V.int))) (λ_ _=>False) s')
  (k:∀l H' out s',Inv X pins σ H' s'->H l=none->H' l=some (.lst out)->jm H H'->vy uo keyf vs out->Q (.ref l) s') :
  ay (aC X.prog X.w) X.A (call (.builtin "sorted") [.ref p] [(ai "key",.ref f)]) Q E s:=by
 obtain ⟨its,rv,pl,hz⟩:=I.list hq
 have hlen:its.length=vs.length:=rv.length.symm
 refine call_function_entry_kw oq nh ni (ksk_s1 _ _) ?_
 unfold dY.«sorted»
 refine ae (m:=pj "sorted" 1 1 _) (wpAny_pure ?_)
 refine ae (collect_list pl.isList ?_ (by rw [bw];omega))
 refine ae (eR ?_ (by rw [bw];omega))
 have hsz:((s.heap.push (bc "list" #[] 0)).update s.heap.objs.size (aR (· ++ its.toArray))).objs.size=s.heap.objs.size+1:=by
  rw [dz,mM]
 have ho:(((s.heap.push (bc "list" #[] 0)).update s.heap.objs.size (aR (· ++ its.toArray))).push (bc "list" its.toArray 0)).get? (s.heap.objs.size+1)=some (bc "list" its.toArray 0):=by
  rw [<- hsz];exact az _ rfl
 have keep:∀b o,s.heap.get? b=some o->(((s.heap.push (bc "list" #[] 0)).update s.heap.objs.size (aR (· ++ its.toArray))).push (bc "list" its.toArray 0)).get? b=some o:=λb o q=>by
  have hlt:b<s.heap.objs.size:=ar q
  rw [cz _ _ _ (by rw [hsz];exact aA (bC hlt)),bR _ _ _ _ (aA hlt),cz _ _ _ (aA hlt)]
  exact q
 show ay _ _ _ _ _ { s with heap:=((s.heap.push (bc "list" #[] 0)).update s.heap.objs.size (aR (· ++ its.toArray))).push (bc "list" its.toArray 0) }
 rw [hsz]
 refine ae (bG (wpAny_call_entry_kw m7 ⟨_,ho,rfl⟩ lL ?body (ksk_l1 _ _)))
 case body =>
  generalize ((s.heap.push (bc "list" #[] 0)).update s.heap.objs.size (aR (· ++ its.toArray))).push (bc "list" its.toArray 0)=h0 at ho keep
  generalize ha:s.heap.objs.size+1=a at ho
  have hDs:s.heap.objs.size<=a:=by rw [<- ha];exact fe _
  have aNew:∀b o,s.heap.get? b=some o->b≠a:=λb o q=>by have:=ar q;rw [<- ha];exact aA (bC this)
  show ay (aC X.prog X.w) X.A.in1.in1 (dY.«list.sort» ⟨[.ref a],[(ai "key",.ref f)]⟩) _ _ { s with heap:=h0 }
  rw [ksk_t1]
  unfold ksk_tree
  have hal:a<h0.objs.size:=ar ho
  refine ae (lE ho rfl ?_)
  refine ae (cJ ho rfl ?_ (by rw [aw,bw];omega) (aJ _))
  obtain ⟨e1,ho1⟩:∃e1,(h0.update a (aR λ_=>(#[]:Array ag))).get? a=some (bc "list" #[] e1):=⟨_,dR ho (λ_=>#[])⟩
  refine ae (ef ho1 rfl ?_)
  refine ae (iA ?_ (by show its.length<=_;rw [bw];omega))
  refine ae (eR ?_ (aJ _))
  refine bG ?_
  have ho5:((h0.update a (aR λ_=>(#[]:Array ag))).push (bc "tuple" its.toArray 0)).get? a=some (bc "list" #[] e1):=ah _ ho1
  have keep5:∀b o,s.heap.get? b=some o->((h0.update a (aR λ_=>(#[]:Array ag))).push (bc "tuple" its.toArray 0)).get? b=some o:=λb o q =>
   ah _ ((bR _ _ _ _ (aNew b o q)).trans (keep b o q))
  show ay (aC X.prog X.w) X.A.in1.in1 (ksk_rest a (.ref f) false its.toArray e1 (.ref ((h0.update a (aR λ_=>(#[]:Array ag))).push (bc "tuple" its.toArray 0)).objs.size)) _ _
   { s with heap:=((h0.update a (aR λ_=>(#[]:Array ag))).push (bc "tuple" its.toArray 0)).push (bc "list" #[] 0) }
  generalize (h0.update a (aR λ_=>(#[]:Array ag))).push (bc "tuple" its.toArray 0)=h5 at ho5 keep5
  have I5:Inv X pins σ H { s with heap:=h5,toks:=s.toks }:=I.kept keep5
  have hHa:H a=none:=I.hok.fresh hDs
  have hHk:H h5.objs.size=none:=I5.hok.fresh (ao _)
  have hLoc:a≠X.env.locals:=λz=>by
   obtain ⟨m,⟨o,es,ep,e,_⟩,_⟩:=I.loc
   exact aNew _ _ e z.symm
  have hFs:a∉X.fs:=I.nofs hDs
  have hCell:∀x c,X.env.cells.lookup x=some c->c≠a:=λx c e=>by
   obtain ⟨v,o,e2,_⟩:=I.cell x c e
   exact aNew c o e2
  have hPins:∀q∈X.pn++pins,q.1≠a:=λq hq=>aNew _ _ (I.pin q hq).1
  have I6:Inv X ((a,bc "list" #[] e1)::pins) σ (upd H h5.objs.size (.lst [])) { s with heap:=h5.push (bc "list" #[] 0),toks:=s.toks }:=by
   refine Inv.pins_of (I5.lnew (its:=[]) (ys:=[]) .nil (aJ _)) λq hq=>?_
   rcases List.mem_cons.mp hq with rfl | hq
   ·refine ⟨ah _ ho5,?_,hLoc,hFs,λv=>by intro z;cases z⟩
    rw [j5 (aA (ar ho5))]
    exact hHa
   ·have J:=(I5.lnew (its:=[]) (ys:=[]) (t':=s.toks) .nil (aJ _)).pin q (aE _ hq)
    exact J
  unfold ksk_rest
  refine ae (eY ?_)
  first
   | rw [List.forIn_toArray]
   | (rw [<- mO];simp only [List.toList_toArray])
   | rw [<- mO]
  refine ae (ksk_fold (λj s'=>∃H' ks,Inv X ((a,bc "list" #[] e1)::pins) σ H' s'/\jm H H'/\H' h5.objs.size=some (.lst ks)/\Vt H' ks keyf j) its 0 _
   ⟨_,[],I6,jm.new hHk,j4,rfl,λi hi=>absurd hi (lN _)⟩ (λj x s' hx hJ=>?_) λs' hJ=>?_)
  ·-- a key
   rw [lF] at hJ ⊢
   obtain ⟨H',ks,J,sm,hk,hl,hks⟩:=hJ
   have hj:j<its.length:=(List.getElem?_eq_some_iff.mp hx).1
   have hv:vs[j]? = some (vs[j]'∅):=aa ∅
   obtain ⟨u,e5,ru⟩:=rv.get hv
   rw [hx] at e5
   cases e5
   refine ae (mz (aX (hcall j _ hv _ s' H' x J sm ru) (λkv s'' hk2=>?_) λ_ _ hF=>hF.elim))
   obtain ⟨kv',H'',J2,rk,sm2,q,rfl,hqq⟩:=hk2
   dsimp only
   have hk':=sm2 _ _ hk
   obtain ⟨z,itk,n,rvk,hlk,ek⟩:=J2.lstM hk'
   refine ae (cJ ek rfl ?_ (by rw [aw,<- hlk,hl,bw];omega) (aF (lj (Array.size_push ..)) (by rw [aw,<- hlk,hl,bw];omega)))
   refine wpAny_pure ⟨rfl,_,ks++[.ref q],J2.lset (t':=s''.toks) (its':=itk++[kv]) hk' ek (by simp) (rvk.append (.cons rk .nil)) (by rw [ax,aW,hl];exact aF (by omega:j+1<=1000) ⋯),λb o e=>?_,j4,?_,λi hi=>?_⟩
   ·rw [j5 (j1 e hHk)]
    exact sm2 _ _ (sm _ _ e)
   ·rw [ax,aW,hl]
   ·by_cases hij:i<j
    ·obtain ⟨q',e6,e7⟩:=hks i hij
     refine ⟨q',by rw [cD ∅];exact e6,?_⟩
     have e8:=sm2 _ _ e7
     rw [j5 (jh e8 hk' (by intro z;cases z))]
     exact e8
    ·have:i=j:=∅
     subst this
     refine ⟨q,by rw [cw ∅,hl];simp,?_⟩
     rw [j5 (jh hqq hk' (by intro z;cases z))]
     exact hqq
  ·-- behind the keys
   rw [lF] at hJ
   obtain ⟨H',ks,J,sm,hk,hl,hks⟩:=hJ
   obtain ⟨z,itk,n,rvk,hlk,ek⟩:=J.lstM hk
   have hlk':itk.length=its.length:=∅
   refine ae (lE ek rfl ?_)
   obtain ⟨eD,nD,_⟩:=J.pin (a,bc "list" #[] e1) (aE _ aG)
   have hak:a≠h5.objs.size:=λz=>by rw [z,hk] at nD;cases nD
   have keyAt:∀i,i<its.length->∃q itq o m,itk.getD i aT = .ref q/\s'.heap.get? q=some o/\o.cls = .type "tuple" /\ o.data = .seq itq.toArray m/\cV itq (keyf i):=λi hi=>by
    obtain ⟨q,e6,e7⟩:=hks i hi
    obtain ⟨u,e8,ru⟩:=rvk.get e6
    cases ru
    obtain ⟨zz,itq,rq,o,e9,ec,m,ed⟩:=J.hok q _ e7
    exact ⟨q,itq,o,m,by rw [ak,e8];rfl,e9,ec,ed,qH rq⟩
   have fin:∀(ix:List Nat) (st':SortSt),ix.Perm (aO its.length)->(ix.map keyf).Pairwise uo.kle->px st'=none->(arrOf st').map (·.2)=(ix.map λi=>its.getD i aT).toArray ->
     ay (aC X.prog X.w) X.A.in1.in1 (ksk_tail a false e1 (.ref h5.objs.size) st') (λfin s'=>∃v,fin = .done (.ret v)/\ay (aC X.prog X.w) X.A.in1 (do let _ <- pure v;ret (b0 a)) (λfin s'=>∃v,fin = .done (.ret v)/\Q v s') E s') E s':=by
    intro ix st' hp hg hf hout
    unfold ksk_tail
    dsimp only
    rw [hout]
    have hol:(ix.map λi=>its.getD i aT).length<64:=by rw [af,hp.length_eq,bH];omega
    refine ae (cJ ek rfl ?_ (by rw [aw,hlk',bw];omega) (aJ _))
    refine ae (eA ?_)
    have J2:Inv X ((a,bc "list" #[] e1)::pins) σ (upd H' h5.objs.size (.lst [])) { s' with heap:=s'.heap.update h5.objs.size (aR λ_=>(#[]:Array ag)),toks:=s'.toks }:=J.lset (its':=[]) (ys:=[]) hk ek rfl .nil (aJ _)
    have eD2:(s'.heap.update h5.objs.size (aR λ_=>(#[]:Array ag))).get? a=some (bc "list" #[] e1):=(bR _ _ _ _ hak).trans eD
    refine ae (ef eD2 rfl ?_)
    refine ae (cJ eD2 rfl ?_ (aJ _) (by simp only [c0,if_false];rw [aw,bw];omega))
    rw [hf]
    simp only [bne_self_eq_false,c0,if_false]
    refine wpAny_pure ⟨_,rfl,ae (wpAny_pure (wpAny_pure ⟨_,rfl,?_⟩))⟩
    have eo:∃n,((s'.heap.update h5.objs.size (aR λ_=>(#[]:Array ag))).update a (aR λ_=>(ix.map λi=>its.getD i aT).toArray)).get? a=some (bc "list" (ix.map λi=>its.getD i aT).toArray n):=⟨_,dR eD2 λ_=>_⟩
    obtain ⟨n',eo⟩:=eo
    have J3:=J2.adopt (o:=.lst (ix.map λi=>vs.getD i V.non)) (t':=s'.toks) (aF I.sz hDs) hCell hPins
     (h':=(s'.heap.update h5.objs.size (aR λ_=>(#[]:Array ag))).update a (aR λ_=>(ix.map λi=>its.getD i aT).toArray)) (λb u n e=>(bR _ _ _ _ n).trans e) ⟨by rw [af,hp.length_eq,bH];exact aF (by omega:its.length<=1000) ⋯,_,n',vP rv ix,eo⟩
    refine k a _ _ _ J3 hHa j4 (λb o e=>?_) ⟨ix,by rw [<- hlen];exact hp,rfl,hg⟩
    rw [j5 (j1 e hHa),j5 (j1 e hHk)]
    exact sm _ _ e
   unfold ksk_end
   dsimp only
   simp only [c0,if_false]
   by_cases h2:its.toArray.size<2
   ·rw [if_pos h2,if_pos h2]
    refine ae (wpAny_pure ?_)
    rw [lM]
    refine ae (wpAny_pure ?_)
    dsimp only
    rw [aw] at h2
    refine fin (aO its.length) _ (m8 _) ?_ rfl ?_
    ·have hcase:its.length=0\/its.length=1:=∅
     rcases hcase with z | z
     ·rw [z];exact fC
     ·rw [z];exact ff _ _
    ·rw [yO]
     exact Jb hlk'
   ·rw [if_neg h2,if_neg h2]
    rw [aw] at h2
    have tups:∃fs,KatTups s'.heap itk fs/\0<fs.length/\∀v∈fs,Looks (aC X.prog X.w) s'.heap (pU v) (.type "int"):=by
     have go:∀(l:List ag),(∀i,i<l.length->∃q itq o m ns,l.getD i aT = .ref q/\s'.heap.get? q=some o/\o.cls = .type "tuple" /\ o.data = .seq (nj itq) m/\cV itq ns/\ns≠[]) ->
       ∃fs,KatTups s'.heap l fs/\fs.length=l.length/\∀v∈fs,Looks (aC X.prog X.w) s'.heap (pU v) (.type "int"):=by
      intro l
      induction l with
      | nil=>intro _;exact ⟨[],.nil,rfl,λ_ h=>nomatch h⟩
      | cons v l ih =>
       intro h
       obtain ⟨fs,t,e,lk⟩:=ih λi hi=>h (i+1) (by rw [b7];omega)
       obtain ⟨q,itq,o,m,ns,e1,e2,e3,e4,e5,e6⟩:=h 0 (by rw [b7];omega)
       have e1':v = .ref q:=e1
       subst e1'
       cases e5 with
       | nil=>exact absurd rfl e6
       | cons n t' r =>
        refine ⟨.int n t'::fs,KatTups.cons e2 e3 e4 (by simp) t,by rw [b7,b7,e],λv hv=>?_⟩
        rcases List.mem_cons.mp hv with rfl | hv
        ·exact pQ rfl
        ·exact lk v hv
     obtain ⟨fs,t,e,lk⟩:=go itk λi hi=>by
      obtain ⟨q,itq,o,m,a1,a2,a3,a4,a5⟩:=keyAt i ∅
      exact ⟨q,itq,o,m,keyf i,a1,a2,a3,a4,a5,hne i ∅⟩
     exact ⟨fs,t,∅,lk⟩
    obtain ⟨fs,t,hfs,lk⟩:=tups
    refine ae (kat_kind (T:=.type "int") t hfs lk rfl ?_)
    rw [show (eV "int" != eV "tuple")=true from rfl]
    refine ae (aX (kat_run (ks:=itk) (vs:=its) (κ:=tuples' true) (G:=λp s2=>(jZ its.length p/\(p.toList.map keyf).Pairwise uo.kle)/\s2=s') (Q:=λst' s2=>∃p:Array Nat,arrOf st'=p.map (rp (itk.toArray.zip its.toArray))/\px st'=none/\(jZ its.length p/\(p.toList.map keyf).Pairwise uo.kle)/\s2=s')
     hlk' ∅ ∅ (λp st' s' a1 a2 a3 a4=>⟨p,a2,a3,a4⟩) (qE.wp (lt:=ltK uo keyf) (n:=its.length) (I:=λs2=>s2=s') (λi j C s2 hi hj hI hC=>?_) (λp s2 hp hI=>⟨hp,hI⟩) (uC ∅ λp' hP hS=>⟨hP,hS.pairwise hP.size⟩) rfl)) ?_ λ_ _ e=>e)
    ·subst hI
     obtain ⟨q,itq,o,m,a1,a2,a3,a4,a5⟩:=keyAt i hi
     obtain ⟨q',itq',o',m',b1,b2,b3,b4,b5⟩:=keyAt j hj
     unfold kas_ask
     rw [a1,b1]
     exact Qf a2 a4 b2 b4 a5 b5 (hC _ rfl)
    ·rintro ⟨⟨⟩,st'⟩ s2 ⟨p,har,hf,⟨hP,hG⟩,rfl⟩
     dsimp only
     exact fin p.toList st' (by have:=Array.perm_iff_toList_perm.mp hP;simpa using this) hG hf (rA hlk' har)
end
end L2
end
section
namespace L2
open PySem.W
section
variable {prog:Program}{w:aV}{A:ba}{E:ag->Shared->Prop}{s:Shared}
theorem Qd (n:Nat):eK none none (-1) (n:Int)=((n:Int)-1,-1):=by
 unfold eK
 simp
theorem Q9 (n:Nat):d8 ((n:Int)-1) (-1) (-1)=n:=by
 unfold d8
 have h1:¬((-1:Int) > 0):=⋯
 simp only [h1,if_false]
 by_cases h:n=0
 ·subst h;simp
 ·rw [show (- -1:Int)=1 by decide]
  simp only [Int.ediv_one]
  split <;> omega
theorem vF {sl:Addr}{v3:ag}{n:Nat}{Q:Int×Int×Nat->Shared->Prop}(hs:s.heap.IsSliceOf sl .none .none v3) (pk:oY v3 (some (-1)))
  (h:Q ((n:Int)-1,-1,n) s):ay (aC prog w) A (iB (.ref sl) (pure (n:Int))) Q E s:=by
 obtain ⟨os,hos,hcs,hds⟩:=id hs
 unfold iB Builtin.Slice.sliceFields
 refine ae (ae (bE hos hds (x:=.none) rfl (ae (bE hos hds (x:=.none) rfl (ae (bE hos hds (x:=v3) rfl (wpAny_pure ?_)))))))
 refine ae (HT.slicePart_ pk ?_)
 show ay _ _ (if ((-1:Int) == 0)=true then _ else _) _ _ s
 rw [if_neg ⋯]
 refine ae (HT.slicePart_ .none (ae (HT.slicePart_ .none (ae (wpAny_pure ?_)))))
 show ay _ _ (match eK none none (-1) (n:Int) with | (lo,hi)=>pure (lo,(-1:Int),d8 lo hi (-1))) _ _ s
 rw [Qd n]
 show ay _ _ (pure ((n:Int)-1,(-1:Int),d8 ((n:Int)-1) (-1) (-1))) _ _ s
 rw [Q9]
 exact wpAny_pure h
theorem Zh (xs:Array ag):((aO xs.size).filterMap λ(m:Nat)=>xs[(((xs.size:Int)-1)+(m:Int) * -1).toNat]?).toArray=xs.toList.reverse.toArray:=by
 have e:((aO xs.size).filterMap λ(m:Nat)=>xs[(((xs.size:Int)-1)+(m:Int) * -1).toNat]?)=((aO xs.size).map λk=>xs.size-1-k).filterMap (xs[·]?):=by
  rw [List.filterMap_map]
  congr 1
  funext m
  show xs[(((xs.size:Int)-1)+(m:Int) * -1).toNat]? = xs[xs.size-1-m]?
  congr 1
  omega
 rw [e,krv_range,List.filterMap_reverse,krv_all]
theorem vd {t sl:Addr}{items:Array ag}{v3:ag}{Q:ag->Shared->Prop}(ht:IsTup s.heap t items) (hs:s.heap.IsSliceOf sl .none .none v3) (pk:oY v3 (some (-1)))
  (h:Q (.ref s.heap.objs.size) { s with heap:=s.heap.push { cls:=.type "tuple",data:=.seq items.toList.reverse.toArray } }) (hsz:items.size<=sizeLine):ay (aC prog w) A (lr (.ref t) (.ref sl)) Q E s:=by
 have htake:sizeOk (.seq items.toList.reverse.toArray):=by
  show items.toList.reverse.toArray.size<=sizeLine
  rw [aw,ib,bQ]
  exact hsz
 obtain ⟨os,hos,hcs,hds⟩:=id hs
 have hTs:s.TypeIs (.ref sl) "slice":=⟨os,hos,hcs⟩
 unfold lr
 try with_reducible refine bG ?_
 first | refine ae (wpAny_pure ?_) | skip
 refine ae (wpAny_sequenceKey ht.typeIs ⋯ ?_)
 refine ae (cN (name:=ai "__getitem__") ht.typeIs fJ
  (cY fJ ht.typeIs entry_tuple_getitem ?_ (args_tuple_getitem _ _)))
 show ay _ _ (Builtin.Tuple.tupleItemsOf (.ref t) >>= _) _ _ s
 refine ae (tupleItemsOf_ ht ?_)
 refine ae (nk hTs ?_)
 rw [if_pos ⋯]
 refine ae (vF hs pk ?_)
 show ay _ _ (if (((items.size:Int)-1) == 0 && (-1:Int) == 1 && items.size == items.size)=true then _ else _) _ _ s
 rw [if_neg (by simp),Zh]
 first
  | exact ae (m:=dq _) (bV (wpAny_pure ⟨_,rfl,wpAny_pure h⟩) htake)
  | exact ae (m:=dq _) (bV (ae (wpAny_pure (wpAny_pure ⟨_,rfl,wpAny_pure h⟩))) htake)
  | exact ae (ae (m:=dq _) (bV (wpAny_pure (wpAny_pure ⟨_,rfl,wpAny_pure h⟩)) htake))
  | exact ae (ae (m:=dq _) (bV (wpAny_pure ⟨_,rfl,wpAny_pure h⟩) htake))
end
section
variable {X:Cx}{e:Expr}{te:TE}{pos p2 p3 p4:Pos}{j3:Nat}
def Uj (K:aj) (te:TE):TE:=λσ H Q=>te σ H λx H2=>∃a xs,x = .ref a/\SqT K H2 a xs/\New H2 (.tup xs.reverse) Q
def UH (K:aj) (te:TE):TE:=λσ H Q=>te σ H λx H2=>∃a xs,x = .ref a/\SqL K H2 a xs/\New H2 (.lst xs.reverse) Q
theorem YS (K:aj) (he:PE X e te) (hK:X.K=K:=by rfl):PE X (.Subscript e (.Slice none none (some (.UnaryOp .USub (.Constant (.int 1) j3 p3) p4)) p2) pos) (Uj K te):=by
 subst hK
 intro pins s σ H Q I h
 refine lu (thn (he pins s σ H _ I h) λv s1 ⟨x,H1,I1,r1,q1⟩=>?_)
 refine oj ?_
 rw [iM]
 refine wpAny_pure ?_
 refine wpAny_pure ?_
 rw [mx]
 obtain ⟨a,xs,rfl,hx,q⟩:=q1
 refine thn (vg zF j7 pins s1 σ H1 (λy H2=>y = .int (-1)/\H2=H1) I1 ⟨_,rfl,rfl,rfl⟩) λu s3 ⟨y,H3,I3,ry,ey,eH⟩=>?_
 subst ey eH
 obtain ⟨tk,rfl⟩:=ry
 cases r1
 have I4:Inv X pins σ H3 { s3 with heap:=s3.heap.push { cls:=.type "slice",data:=.fields #[.none,.none,.int (-1) tk] } }:=I3.kept (t':=s3.toks) λb ob q=>ah _ q
 obtain ⟨its,r,ht,hz⟩:=I4.tuple hx
 have hlen:its.toArray.size=xs.length:=by rw [aw];exact r.length.symm
 show ay (aC X.prog X.w) X.A (fP e (.Slice none none (some (.UnaryOp .USub (.Constant (.int 1) j3 p3) p4)) p2) (.ref a) (.ref s3.heap.objs.size)) (EP X pins σ Q) X.xe { s3 with heap:=s3.heap.push { cls:=.type "slice",data:=.fields #[.none,.none,.int (-1) tk] } }
 refine rf (ops:=[.ref a,.ref s3.heap.objs.size]) ht.typeIs PyProof.Rows.slot_tuple_getitem.lookup ?_ (by with_unfolding_all rfl)
 refine vd ht (iz ..) (.int _ _) ?_ (by rw [hlen];exact hz)
 have hf:=I4.hok.fresh (ao _)
 refine ⟨.ref _,_,I4.laid (t':=s3.toks) (o:=.tup xs.reverse) (λb ob q=>ah _ q) (ao _) ?_,rfl,q.at _ hf⟩
 exact ⟨by rw [ib];exact hz,_,r.reverse,IsTup.new _ _⟩
theorem Ye (K:aj) (he:PE X e te) (hK:X.K=K:=by rfl):PE X (.Subscript e (.Slice none none (some (.UnaryOp .USub (.Constant (.int 1) j3 p3) p4)) p2) pos) (UH K te):=by
 subst hK
 intro pins s σ H Q I h
 refine lu (thn (he pins s σ H _ I h) λv s1 ⟨x,H1,I1,r1,q1⟩=>?_)
 refine oj ?_
 rw [iM]
 refine wpAny_pure ?_
 refine wpAny_pure ?_
 rw [mx]
 obtain ⟨a,xs,rfl,hx,q⟩:=q1
 refine thn (vg zF j7 pins s1 σ H1 (λy H2=>y = .int (-1)/\H2=H1) I1 ⟨_,rfl,rfl,rfl⟩) λu s3 ⟨y,H3,I3,ry,ey,eH⟩=>?_
 subst ey eH
 obtain ⟨tk,rfl⟩:=ry
 cases r1
 have I4:Inv X pins σ H3 { s3 with heap:=s3.heap.push { cls:=.type "slice",data:=.fields #[.none,.none,.int (-1) tk] } }:=I3.kept (t':=s3.toks) λb ob q=>ah _ q
 obtain ⟨its,r,ht,hz⟩:=I4.list hx
 have hlen:its.length=xs.length:=r.length.symm
 show ay (aC X.prog X.w) X.A (fP e (.Slice none none (some (.UnaryOp .USub (.Constant (.int 1) j3 p3) p4)) p2) (.ref a) (.ref s3.heap.objs.size)) (EP X pins σ Q) X.xe { s3 with heap:=s3.heap.push { cls:=.type "slice",data:=.fields #[.none,.none,.int (-1) tk] } }
 refine rf (ops:=[.ref a,.ref s3.heap.objs.size]) ht.isList.typeIs slot_list_getitem.lookup ?_ (by with_unfolding_all rfl)
 refine iN ht.isList (iz ..) .none .none (.int _ _) ⋯ ?_ (by rw [aw];omega)
 rw [krv_pick]
 have hf:=I4.hok.fresh (ao _)
 refine ⟨.ref _,_,I4.laid (t':=s3.toks) (o:=.lst xs.reverse) (λb ob q=>ah _ q) (ao _) ?_,rfl,q.at _ hf⟩
 exact ⟨by rw [ib];exact hz,_,0,r.reverse,az _ rfl⟩
end
theorem SqL.extT {K:aj}{Pt a:Addr}{H H':Hp}{xs:List V}{ps:Array ag}(hp:H Pt=some (.tbl ps)) (x:Ext Pt H H') (h:SqL K H a xs):SqL K H' a xs:=by
 rcases h with (h | ⟨o,h⟩) | h
 ·exact .inl (.inl (x _ _ h (jh h hp (by intro z;cases z))))
 ·exact .inl (.inr ⟨o,x _ _ h (jh h hp (by intro z;cases z))⟩)
 ·exact .inr h
section
variable {X:Cx}{e body:Expr}{ta:TA}{tb:TE}{params:Arguments}{scope:Scope}{lpos kpos p pos:Pos}{N:List Str}{x:Str}{c Pt:Addr}{k:Nat}
def VU (K:aj) (Pt:Addr) (lpos:Pos) (qual:Str) (N:List Str) (ta:TA) (tb:TE):TE:=λσ H Q=>ta σ H λxs H1=>Tab H1 Pt lpos qual/\∃(p:Addr) (vs:List V) (keyf:Nat->List Int),xs=[.ref p]/\SqL K H1 p vs/\vs.length<64/\(∀i,i<vs.length->keyf i≠[]) /\
 (∀H2,Ext Pt H1 H2->∀i v,vs[i]? = some v->tb (start N [v]) H2 λkv H3=>jm H2 H3/\∃q,kv = .ref q/\H3 q=some (.tup ((keyf i).map V.int))) /\
 ∀l H2 out,H1 l=none->H2 l=some (.lst out)->Ext Pt H1 H2->Tab H2 Pt lpos qual->vy uo keyf vs out->Q (.ref l) H2
theorem Q3 (hg:Gl X "sorted") (hm:X.mg "sorted" = none) (ha:PA X [e] ta) (hcode:X.env.code = .ref c) (CH:CodeHd X.base c Pt) (hB:Bm X.mg X.base) (hr:Room (k+3) X.A) (S:FnScope N [x] scope)
  (hb:∀pm c ctv u,cv (vp (X.env.qual ++ "<lambda>") params body scope pm c ctv) ⟨[u],[]⟩=pure [(x,u)])
  (hbody:∀f c' s H,PE (yI CX0 X.prog X.w X.K X.mg X.base N (X.env.qual ++ "<lambda>") scope f (.ref c') X.A.in1.in1 X.stack s H E0).nox body tb)
  (hcl:mJ scope X.env=pure []:=by rfl) (hdef:defaultsOf params X.env=([],[]):=by rfl)
  (he:ck pos (aH [e] X.env)=(false,eval e X.env)::ck pos (aH [] X.env):=by rfl) (hplain:(ck pos (aH [e] X.env)).any (·.1)=false:=by rfl) :
  PE X (.Call (.Name "sorted" p) [e] [⟨some (ai "key"),.Lambda params body scope lpos,kpos⟩] pos) (VU X.K Pt lpos (X.env.qual ++ "<lambda>") N ta tb):=by
 intro pins s σ H Q I h
 refine cF (zI I hg hm ou ?_ ⋯ ⋯)
 refine callWith_kw (thn (ha pos pins s σ H _ I h) λus s1 ⟨vs,H1,I1,r,q⟩=>?_) he hplain
 show ay _ _ (evalAll ((do let v <- eval (.Lambda params body scope lpos) X.env;eU pos;pure v)::[])) _ _ s1
 obtain ⟨T,a,xs,keyf,e1,hx,h64,hne,hkey,hq⟩:=q
 subst e1
 obtain ⟨u0,rfl,ru⟩:=xU r
 cases ru
 obtain ⟨ps0,hPt⟩:=T.ne
 refine mP (ae (Y1 I1 hcode CH hB hcl hdef T λf H2 s2 pm c' ctv I2 hf hf2 hc2 X2 T2=>ae (cH (wpAny_pure (nu ?_)))))
 show ay _ _ (call (.builtin "sorted") [.ref a] [(ai "key",.ref f)]) _ _ s2
 refine gx I2 (SqL.extT hPt X2 hx) h64 hne (λi v hv pins' s' H' u I' sm ru=>?_) λl H3 out s' I3 hl hl3 sm hs=>?_
 ·have X3:Ext Pt H1 H':=X2.trans (Ext.of_same sm)
  obtain ⟨ho,_⟩:=I'.hok f _ (sm _ _ hf2)
  obtain ⟨hcd,_⟩:=I'.hok c' _ (sm _ _ hc2)
  refine lp (dj (YX (k:=k) ho hcd S (hr.in1.in1) I'.env0.in1.in1 hb ru (hbody f c' s' H') (hkey H' X3 i v hv)) λr s'' hq=>?_)
  cases r with
  | error e=>exact bu hq
  | ok fl =>
   cases fl with
   | ret u=>exact I'.after hq
   | next=>exact bu hq
   | brk=>exact bu hq
   | cont=>exact bu hq
 ·exact ⟨.ref l,H3,I3,rfl,hq l H3 out (X2.free hl (λz=>by rw [z] at hl;obtain ⟨p2,z2⟩:=T2.ne;rw [z2] at hl;cases hl)) hl3 (X2.trans (Ext.of_same sm)) (T2.same sm) hs⟩
end
end L2
end
section
namespace L2
open PySem.W
theorem Z0 {P:Program}{w:aV}{K:aj}{mg mb:Str->Option ag}{k:Nat}{fa a c Pt:Addr}{fd:FuncData}{x:Str}{sp:Sp}{s₁:Shared}{vs:List ag}{ns:List Int}
  (KX:K.In s₁.heap) (hns:s₁.heap.Ns mainGlobals mg) (hb:s₁.heap.Ns l9 mb) (hbb:∀x:Str,x ≠ "__name__" -> mb x=ic x) (hlim:s₁.heap.NoLimit) (hg:s₁.gens = #[])
  (ha:s₁.heap.get? a=some { cls:=.type "list",data:=.seq vs.toArray }) (hi:cV vs ns) (hl:ns.length<=sizeLine) (hr:Room k mi)
  (hPt:s₁.heap.get? Pt=some (oP #[])) (hKP:K.lookup Pt=none) (CH:CodeHd s₁.heap c Pt) (hB:Bm mg s₁.heap)
  (F:∀base:Heap,K.In base->base.Ns mainGlobals mg->Bm mg base->FnOk P w K mg base CX0 k fa fd [x] sp) (hbind:∀(s:Shared) (u:ag),oI s fd ⟨[u],[]⟩ [(x,u)])
  (hsp:∀H:Hp,SqL K H a (ns.map V.int)->H Pt=some (.tbl #[])->sp [.ref a] H (λv _=>v = .bl true) λ_ _ _=>False) :
  cI (aC P w) mi (.call (.ref fa) ⟨[.ref a],[]⟩) (λr s'=>r = .ok (.ret (.bool true))/\OldK s₁.heap s'.heap/\s'.os=s₁.os/\fO s'.gens) s₁:=by
 have rv:=vN hi
 have lenV:=hi.length
 have core:∀H:Hp,H Pt=some (.tbl #[])->(∀b,b≠Pt->H b=none\/∃o xs,H b=some (.frz o (.lst xs)))->SqL K H a (ns.map V.int)->HOk P w H s₁.heap->(∀b,H b≠none->b=a\/b=Pt)->(H a≠none->K.lookup a=none) ->
   cI (aC P w) mi (.call (.ref fa) ⟨[.ref a],[]⟩) (λr s'=>r = .ok (.ret (.bool true))/\OldK s₁.heap s'.heap/\s'.os=s₁.os/\fO s'.gens) s₁:=by
  intro H hP hO hS hok hA hK
  have base_of:∀{b:Addr} {o:Obj},s₁.heap.get? b=some o->H b=none->(wo s₁.heap H).get? b=some o:=λe n=>Y7 e n
  have noA:∀{b:Addr} {o:Obj},s₁.heap.get? b=some o->(∀xs n,o.data≠.seq xs n)->(∀vs,o.data = .fields vs->o.cls≠.none)->H b=none:=λ{b o} e d1 d2=>by
   cases q:H b with
   | none=>rfl
   | some u =>
    rcases hA b (by rw [q];simp) with e' | e'
    ·subst e'
     rw [ha] at e;cases e
     exact absurd rfl (d1 _ _)
    ·subst e'
     rw [hPt] at e;cases e
     exact absurd rfl (d2 _ rfl)
  have noD:∀{b:Addr} {o:Obj} {es:Array DictEntry} {ep:Nat},s₁.heap.get? b=some o->o.data = .dict es ep->H b=none:=λ{b o es ep} e d =>
   noA e (λxs n z=>by rw [d] at z;cases z) (λvs z=>by rw [d] at z;cases z)
  have nsK:∀{b:Addr} {m:Str->Option ag},s₁.heap.Ns b m->(wo s₁.heap H).Ns b m:=λ{b m} ⟨o,es,ep,e,d,r⟩=>⟨o,es,ep,base_of e (noD e d),d,r⟩
  have hKb:K.In (wo s₁.heap H):=λb o e=>base_of (KX b o e) (by
   cases q:H b with
   | none=>rfl
   | some u =>
    rcases hA b (by rw [q];simp) with e' | e'
    ·subst e'
     rw [hK (by rw [q];simp)] at e;cases e
    ·subst e'
     rw [hKP] at e;cases e)
  have hBb:Bm mg (wo s₁.heap H):=by
   obtain ⟨bm,ob,b1,b2,b3,b4,b5,b6⟩:=hB
   exact ⟨bm,ob,b1,b2,base_of b3 (noA b3 (λxs n z=>by rw [b6] at z;cases z) λvs z=>by rw [b6] at z;cases z),b4,b5,b6⟩
  have hM:Mod K mg (wo s₁.heap H):=⟨hKb,nsK hns,⟨mb,nsK hb,hbb⟩,let ⟨mc,h1,h2⟩:=hlim;⟨mc,nsK h1,h2⟩⟩
  have e0:Env0 P w K mg (wo s₁.heap H) mi [] s₁ H:=⟨rfl,hM,λb o e=>Yw e,lj (Xs _ _),trivial,λb hb=>absurd (show b∈([]:List Addr) from hb) (by simp),hok,.of_eq hg⟩
  refine dj ((F _ hKb (nsK hns) hBb).run mi [] s₁ H ⟨[.ref a],[]⟩ [.ref a] [.ref a] _ _ hr e0 (hbind s₁ (.ref a)) (.cons rfl .nil) (hsp H hS hP)) λr s' h=>?_
  cases r with
  | error e=>exact bu h
  | ok fl =>
   cases fl with
   | next=>exact bu h
   | brk=>exact bu h
   | cont=>exact bu h
   | ret u =>
    obtain ⟨v,H',os,bare,un,hok',r',q⟩:=h
    have q':v = .bl true:=q
    subst q'
    obtain rfl:u=mF true:=r'
    have kp:∀b o,b≠Pt->s₁.heap.get? b=some o->s'.heap.get? b=some o:=λb o hb e=>by
     cases q:H b with
     | none=>exact un.keep b o e q (by intro z;exact absurd (show b∈([]:List Addr) from z) (by simp)) (by simp)
     | some u =>
      rcases hO b hb with z | ⟨ob,xs,z⟩
      ·rw [q] at z;cases z
      ·have z2:=un.frzs b ob _ z
       obtain ⟨e1,_⟩:=hok b _ z
       obtain ⟨e2,_⟩:=hok' b _ z2
       rw [e] at e1;cases e1
       exact e2
    obtain ⟨more,hm⟩:=un.tbls Pt _ hP
    have hm':s'.heap.get? Pt=some { cls:=.none,data:=.fields (#[]++more) }:=hok' Pt _ hm
    refine ⟨rfl,⟨λb o e=>?_,λb o e=>?_⟩,os,bare⟩
    ·by_cases hb:b=Pt
     ·subst hb
      rw [hPt] at e;cases e
      exact .inr (.inl ⟨(CH.tab hPt).isCodeTable,rfl,#[],more,rfl,hm'⟩)
     ·exact .inl (kp b o hb e)
    ·by_cases hb:b=Pt
     ·subst hb;exact ⟨_,hm'⟩
     ·exact ⟨o,kp b o hb e⟩
 have haP:a≠Pt:=λz=>by rw [z,hPt] at ha;cases ha
 cases hk:K.lookup a with
 | some o =>
  have e:=KX a o hk
  rw [ha] at e
  cases e
  refine core (λb=>if b=Pt then some (.tbl #[]) else none) (if_pos rfl) (λb hb=>.inl (if_neg hb)) (.inr ⟨_,vs.toArray,_,hk,rfl,rfl,rfl,by rw [aw,lenV];exact hl,by simpa using rv⟩) (λb u z=>?_) (λb z=>?_) λz=>absurd (if_neg haP) z
  ·by_cases hb:b=Pt
   ·have z':=(if_pos hb).symm.trans z
    cases z'
    subst hb
    exact hPt
   ·have z':=(if_neg hb).symm.trans z
    cases z'
  ·by_cases hb:b=Pt
   ·exact .inr hb
   ·exact absurd (if_neg hb) z
 | none =>
  refine core (λb=>if b=Pt then some (.tbl #[]) else if b=a then some (.frz { cls:=.type "list",data:=.seq vs.toArray } (.lst (ns.map V.int))) else none) (if_pos rfl) (λb hb=>?_)
   (.inl (.inr ⟨{ cls:=.type "list",data:=.seq vs.toArray },(if_neg haP).trans (if_pos rfl)⟩)) (λb u z=>?_) (λb z=>?_) λ_=>hk
  ·by_cases hb2:b=a
   ·exact .inr ⟨_,_,(if_neg hb).trans (if_pos hb2)⟩
   ·exact .inl ((if_neg hb).trans (if_neg hb2))
  ·by_cases hb:b=Pt
   ·have z':=(if_pos hb).symm.trans z
    cases z'
    subst hb
    exact hPt
   ·by_cases hb2:b=a
    ·have z':=((if_neg hb).trans (if_pos hb2)).symm.trans z
     cases z'
     subst hb2
     exact ⟨ha,by rw [af];exact hl,vs,_,rv,ha⟩
    ·have z':=((if_neg hb).trans (if_neg hb2)).symm.trans z
     cases z'
  ·by_cases hb:b=Pt
   ·exact .inr hb
   ·by_cases hb2:b=a
    ·exact .inl hb2
    ·exact absurd ((if_neg hb).trans (if_neg hb2)) z
def JU (K:aj) (Pt:Addr):Sp:=λvs H Q _=>∃(a:Addr) (ns:List Int),vs=[.ref a]/\SqL K H a (ns.map V.int)/\ns.length<=63/\H Pt=some (.tbl #[])/\∀H',Q (.bl true) H'
theorem Yn {l:oB}{q:Program}{loose:List Str}{XP:(Str->Option ag)->Heap->Prop}{YP:aV->Heap->Prop}{d:DefRec}{K:oM->aj}(k:Nat) (c Pt:Addr) (hr:Room k mi) (hn:l.most=some 63) (hdf:d.params.defaults=[])
  (hY:∀(w:aV) (h:Heap),YP w h->(K w.params).In h/\h.get? Pt=some (oP #[])) (hKP:∀p:oM,(K p).lookup Pt=none) (hC:∀p:oM,codeHdIn (K p) c Pt=true)
  (F:∀(w:aV) (mg:Str->Option ag) (fa:Addr) (h:Heap),(K w.params).In h->h.Ns mainGlobals mg->mg d.name=some (.ref fa) ->
   ∃fd:FuncData,(∀(s:Shared) (u:ag),oI s fd ⟨[u],[]⟩ [("_law_script",u)])/\∀base:Heap,(K w.params).In base->base.Ns mainGlobals mg->Bm mg base->FnOk l.prog w (K w.params) mg base CX0 k fa fd ["_law_script"] (JU (K w.params) Pt)) :
  PySem.W.WalkO q loose XP YP l.row.toRowW d [] (λf vs=>PySem.call f vs):=by
 refine Att.attach_call hn hdf λw s₀ s₁ mg mb fa o pm cd doc a vs ns G Y ho hd hcd hmg hobj hints hlen hg=>?_
 obtain ⟨KX,hT⟩:=hY w _ Y
 obtain ⟨fd,hb,hF⟩:=F w mg fa _ KX G.T.g hmg
 exact Z0 (c:=c) KX G.T.g G.T.b G.T.builtins G.T.nolimit hg hobj hints (aF hlen ⋯) hr hT (hKP w.params) (codeHd_of_K KX (hC w.params)) G.T.bmain hF hb λH hS hP=>⟨a,ns,rfl,hS,hlen,hP,λ_=>rfl⟩
theorem Fun.okC {P:Program}{w:aV}{K:aj}{mg:Str->Option ag}{base:Heap}{x qual:Str}{st:Stmt}{f c:Addr}{oc:ag}{od an:Option Addr}{osl:Array (Option ag)}{kV doc pm ct:ag}{N ps:List Str}{k:Nat}{sp:Sp}
  (l:K.lookup f=some ⟨oc,od,.func (bx x qual (jL st) (jF st) (j8 st) .none kV doc pm an (.ref c) ct),osl⟩) (cd:cx K (.ref c) qual=true) (S:FnScope N ps (j8 st)) (len:∀vs H Q E,sp vs H Q E->vs.length=ps.length)
  (hbody:∀(A:ba) (outer:List Env) (s:Shared) (H:Hp) (vs:List V) (Q:VK) (E:XK),Room k (A.deeper (iL qual (j8 st) s.heap.objs.size f (.ref c)))->sp vs H Q E ->
   ∃t,PSs (yI CX0 P w K mg base N qual (j8 st) f (.ref c) A outer s H E).nox (jF st) t/\t { nx:=λ_ H'=>Q .non H',rt:=Q } (start N vs) H) :
  FnOk P w K mg base CX0 (k+1) f (bx x qual (jL st) (jF st) (j8 st) .none kV doc pm an (.ref c) ct) ps sp:=by
 refine Zb l cd S len λA outer s H vs Q E hr hsp=>?_
 obtain ⟨t,h,q⟩:=hbody A outer s H vs Q E hr hsp
 exact ⟨t,h.nox,q⟩
theorem Cal.mkC {P:Program}{w:aV}{K:aj}{mg:Str->Option ag}{base:Heap}{k:Nat}{x:Str}{ps:List Str}{sp:Sp}{st:Stmt}{h:Heap}{f c:Addr}{oc:ag}{od an:Option Addr}{osl:Array (Option ag)}{kV doc pm ct:ag}
  (X:K.In h) (G:h.Ns mainGlobals mg) (a:aP K mainGlobals x=some (some (.ref f)))
  (l:K.lookup f=some ⟨oc,od,.func (bx x x (jL st) (jF st) (j8 st) .none kV doc pm an (.ref c) ct),osl⟩) (cd:cx K (.ref c) x=true) (k':bJ K (.ref f)=true)
  (hb:∀(kV doc pm:ag) (an:Option Addr) (cdv ct:ag) (us:List ag),us.length=ps.length->cv (bx x x (jL st) (jF st) (j8 st) .none kV doc pm an cdv ct) ⟨us,[]⟩=pure (ps.zip us))
  (ok:FnOk P w K mg base CX0 k f (bx x x (jL st) (jF st) (j8 st) .none kV doc pm an (.ref c) ct) ps sp):Cal P w K mg base k x ps sp:=by
 have F:=yx (st:=st) l cd k'
 exact ⟨f,_,ok,F.binds hb,bf X G a,k'⟩
end L2
end
section
namespace L2
open PySem.W
def Ite (K:aj) (a:Addr):It :=
 ⟨λi H=>∃xs x,SqL K H a xs/\xs[i]? = some x,λi H v H'=>∃t x,v = .ref t/\H t=none/\H'=upd H t (.tup [.int i,x])/\∀xs,SqL K H a xs->xs[i]? = some x,λi H=>∃xs,SqL K H a xs/\xs.length<=i⟩
theorem XT {P:Program}{w:aV}{K:aj}{es:List Expr}{x1:Nat}{pos:Pos}(a e it:Addr) (hne:e≠it):Turn P w K (.Tuple es x1 pos) (Ite K a) [e,it] e (λi h=>∃old,IsEnum h e it i old/\h.IsListIter it a i) where
 mem:=by simp
 obj:=λi h ⟨old,st1,st2⟩ b hb=>by
  rcases List.mem_cons.mp hb with rfl | hb
  ·exact ⟨_,st1,λv z=>by
    have z':fb _=iS v:=z
    cases z'⟩
  ·have e:b=it:=by simpa using hb
   subst e
   obtain ⟨o,e,c,d⟩:=st2
   exact ⟨o,e,λv z=>by rw [d] at z;cases z⟩
 keep:=λi h h' ⟨old,st1,st2⟩ k=>⟨old,k e (by simp) _ st1,st2.at λo z=>k it (by simp) o z⟩
 item:=by
  intro X hP hw hK hc i pins s σ H E I hf st hg
  subst hP hw hK
  obtain ⟨old,st1,st2⟩:=st
  obtain ⟨xs,x,hq,hx⟩:=hg
  obtain ⟨its,rv,p,hz⟩:=I.list hq
  obtain ⟨u,hu,ru⟩:=rv.get hx
  obtain ⟨f0,f1,f2,f3,f4,f5⟩:=hf e (by simp)
  obtain ⟨g0,g1,g2,g3,g4,g5⟩:=hf it (by simp)
  have hn:H s.heap.objs.size=none:=I.hok.fresh (ao _)
  refine wpAny_pyNext_enum_item st1 st2 p.isList (x:=u) (by simpa using hu) hne λh' o1 o2 o3 o4 o5=>⟨_,rfl,?_⟩
  refine wpAny_letOwnedTupleGo_enum o1 λh2 q1 sb=>?_
  have hel:e<s.heap.objs.size:=ar st1
  have kk:∀b o,b≠e->b≠it->s.heap.get? b=some o->h2.get? b=some o:=λb o n1 n2 z=>(sb.2 b n1).trans (o5 b o n1 n2 z)
  have et:h2.get? s.heap.objs.size=some { cls:=.type "tuple",data:=.seq #[.int i s.toks,u] }:=(sb.2 _ (cq hel)).trans o3
  have tne:∀b o,H b=some o->b≠e/\b≠it/\b≠s.heap.objs.size:=λb o q=>⟨λz=>(by rw [z,f0] at q;cases q),λz=>(by rw [z,g0] at q;cases q),λz=>(by rw [z,hn] at q;cases q)⟩
  have getF:∀{b:Addr} {o:HO},H b=some o->upd H s.heap.objs.size (.tup [.int i,x]) b=some o:=λ{b o} q=>by rw [j5 (tne b o q).2.2];exact q
  have I1:Inv X pins σ (upd H s.heap.objs.size (.tup [.int i,x])) { s with heap:=h2,toks:=s.toks+1 }:=by
   refine I.step (g':=s.gens) (d':=s.drawn) (ch:=[e,it]) (λb hb=>?_) (λb o _ _ hc z _=>kk b o (λy=>hc (by simp [y])) (λy=>hc (by simp [y])) z) (λb o _ _ hc z _=>⟨o.slots,kk b o (λy=>hc (by simp [y])) (λy=>hc (by simp [y])) z⟩)
    (λb o hc z n=>by rw [j5 (aA (ar z))];exact n) (λb o hc z=>⟨o,kk b o (λy=>hc (by simp [y])) (λy=>hc (by simp [y])) z⟩) (λ_ _ q=>getF q) (λ_ _ _ q=>getF q) (λb ps q=>⟨#[],by rw [getF q];simp⟩) (λm hm=>?_) (λb v q=>?_) I.bare
   ·rcases List.mem_cons.mp hb with rfl | hb
    ·exact ⟨f3,f1,f4,f5⟩
    ·have e:b=it:=by simpa using hb
     subst e
     exact ⟨g3,g1,g4,g5⟩
   ·obtain ⟨o,es,ep,ho,r⟩:=hm
    exact ⟨o,es,ep,kk _ o (c5 f1) (c5 g1) ho,r⟩
   ·by_cases hb:b=s.heap.objs.size
    ·subst hb
     rw [j4] at q;cases q
     exact ⟨by show 2<=sizeLine;decide,[.int i s.toks,u],.cons ⟨_,rfl⟩ (.cons ru .nil),⟨_,et,rfl,0,rfl⟩⟩
    ·rw [j5 hb] at q
     refine (I.hok b v q).stay (λc o hc z=>kk c o ?_ ?_ z) (λ_ z=>getF z) λ_ _ z=>getF z
     ·rcases hc with z | z
      ·rw [z];exact (tne b v q).1
      ·exact (tne c _ z).1
     ·rcases hc with z | z
      ·rw [z];exact (tne b v q).2.1
      ·exact (tne c _ z).2.1
  have st2':h2.IsListIter it a (i+1):=o2.at λo z=>(sb.2 it (c5 hne)).trans z
  refine ⟨.ref s.heap.objs.size,_,I1,rfl,⟨_,x,rfl,hn,rfl,λys hy=>by rw [I.list_inj hy hq];exact hx⟩,⟨u,?_,st2'⟩,λb hb=>?_⟩
  ·have:((i+1:Nat):Int)=(i:Int)+1:=by push_cast;rfl
   rw [this]
   exact q1
  ·rcases List.mem_cons.mp hb with rfl | hb
   ·rw [j5 (aA hel)];exact f0
   ·have e:b=it:=by simpa using hb
    subst e
    obtain ⟨o,z,_⟩:=st2
    rw [j5 (aA (ar z))];exact g0
 done:=by
  intro X hP hw hK hc i pins s σ H E I hf st hg
  subst hP hw hK
  obtain ⟨old,st1,st2⟩:=st
  obtain ⟨xs,hq,hx⟩:=hg
  obtain ⟨its,rv,p,hz⟩:=I.list hq
  obtain ⟨g0,g1,g2,g3,g4,g5⟩:=hf it (by simp)
  have hl:=rv.length
  exact wpAny_pyNext_enum_end (I.ok.hd hc) st1 st2 p.isList (by simp;omega) λh' eb=>⟨rfl,I.turned (t':=s.toks) (λb o hb e=>eb b o hb e) g0 g1 g3 g4 g5⟩
 self:=λ_ _ _ _ _ ⟨old,st1,_⟩ h=>nv st1 h
section
variable {X:Cx}
def Uo (K:aj) (ta:TA):TI:=λσ H R=>ta σ H λvs H1=>∃a,vs=[.ref a]/\(∃xs,SqL K H1 a xs)/\R (Ite K a) H1
theorem kO {es:List Expr}{x1:Nat}{tpos:Pos}{l:Expr}{ta:TA}{p pos:Pos}(K:aj) (hg:Gl X "enumerate") (hm:X.mg "enumerate" = none) (ha:PA X [l] ta) (hs:aH [l] X.env=[(false,eval l X.env)]:=by rfl) (hK:X.K=K:=by rfl) :
  PI X (.Tuple es x1 tpos) (.Call (.Name "enumerate" p) [l] [] pos) (Uo K ta):=by
 subst hK
 intro pins s σ H R I h
 refine rJ (zI I hg hm boot_enumerate (bU (thn (ha pos pins s σ H _ I h) λus s1 ⟨vs,H1,I1,r1,q1⟩=>?_) hs rfl))
 obtain ⟨a,e,⟨xs,hq⟩,q⟩:=q1
 subst e
 obtain ⟨u,rfl,ru⟩:=xU r1
 cases ru
 obtain ⟨its,rv,pl,hz⟩:=I1.list hq
 refine call_enumerate_list pl.isList λh' i1 i2 i3 kk=>?_
 refine nv i1 ?_
 have I2:Inv X pins σ H1 { s1 with heap:=h',toks:=s1.toks }:=I1.kept kk
 refine ⟨_,[s1.heap.objs.size+1,s1.heap.objs.size],_,_,H1,rfl,I2,XT a _ _ (by exact Nat.succ_ne_self _),⟨.none,i1,i2⟩,λb hb=>?_,q⟩
 rcases List.mem_cons.mp hb with rfl | hb
 ·exact I1.fpOk (fe _) (I1.hok.fresh (fe _))
 ·have e:b=s1.heap.objs.size:=by simpa using hb
  subst e
  exact I1.fpOk (ao _) (I1.hok.fresh (ao _))
end
theorem ki {K:aj}{a acc:Addr}{xs:List V}{g:TG}{ti:TT}{te:TE}{R:Hp->Prop}{σ:St}{H:Hp}(Pv:Nat->St->Hp->Prop) (h0:Pv 0 σ H) (hl:∀i σ H,i<=xs.length->Pv i σ H->SqL K H a xs)
  (hs:∀i x σ H t,xs[i]? = some x->Pv i σ H->H t=none->g (.ref t) σ (upd H t (.tup [.int i,x])) λσ3 H3=>ti σ3 H3 λok H4=>if ok=true then te σ3 H4 λv H5=>∃ys,H5 acc=some (.lst ys)/\ys.length<sizeLine/\Pv (i+1) σ3 (upd H5 acc (.lst (ys++[v]))) else Pv (i+1) σ3 H4)
  (hd:∀σ H,Pv xs.length σ H->R H) :
  ∃W:Nat->Nat->St->Hp->Prop,(∃m,W 0 m σ H)/\∀i m σ' H',W i m σ' H' ->
   ((Ite K a).stop i H'/\R H')\/((Ite K a).go i H'/\∃NX:St->Hp->Prop,(∀σ2 H2,NX σ2 H2->∃m',m'<m/\W (i+1) m' σ2 H2) /\
    ∀x H2,(Ite K a).yld i H' x H2->g x σ' H2 λσ3 H3=>ti σ3 H3 λok H4=>if ok=true then te σ3 H4 λv H5=>∃ys,H5 acc=some (.lst ys)/\ys.length<sizeLine/\NX σ3 (upd H5 acc (.lst (ys++[v]))) else NX σ3 H4):=by
 refine ⟨λi m σ H=>m=xs.length-i/\i<=xs.length/\Pv i σ H,⟨xs.length,by simp,aJ _,h0⟩,?_⟩
 rintro i m σ H ⟨rfl,hi,p⟩
 have q:=hl i σ H hi p
 by_cases hlt:i<xs.length
 ·refine .inr ⟨⟨xs,xs[i],q,by simp [hlt]⟩,Pv (i+1),λσ' H' p'=>⟨xs.length-(i+1),∅,rfl,hlt,p'⟩,λv H' y=>?_⟩
  obtain ⟨t,x,rfl,hn,rfl,y⟩:=y
  exact hs i x σ H t (y xs q) p hn
 ·have e:i=xs.length:=∅
  subst e
  exact .inl ⟨⟨xs,q,ao _⟩,hd σ H p⟩
theorem ZN {K:aj}{a:Addr}{xs:List V}{g:TG}{tb:TS}{D:Ends}{σ:St}{H:Hp}(Pv:Nat->St->Hp->Prop) (h0:Pv 0 σ H) (hl:∀i σ H,i<=xs.length->Pv i σ H->SqL K H a xs)
  (hs:∀i x σ H t,xs[i]? = some x->Pv i σ H->H t=none->g (.ref t) σ (upd H t (.tup [.int i,x])) λσ2 H2=>tb { D with nx:=Pv (i+1),ct:=Pv (i+1),bk:=D.nx } σ2 H2) (hd:∀σ H,Pv xs.length σ H->D.nx σ H) :
  ∃W:Nat->Nat->St->Hp->Prop,(∃m,W 0 m σ H)/\∀i m σ H,W i m σ H ->
   ((Ite K a).stop i H/\D.nx σ H)\/((Ite K a).go i H/\∃N:St->Hp->Prop,(∀σ' H',N σ' H'->∃m',m'<m/\W (i+1) m' σ' H')/\∀x H',(Ite K a).yld i H x H'->g x σ H' λσ2 H2=>tb { D with nx:=N,ct:=N,bk:=D.nx } σ2 H2):=by
 refine ⟨λi m σ H=>m=xs.length-i/\i<=xs.length/\Pv i σ H,⟨xs.length,by simp,aJ _,h0⟩,?_⟩
 rintro i m σ H ⟨rfl,hi,p⟩
 have q:=hl i σ H hi p
 by_cases hlt:i<xs.length
 ·refine .inr ⟨⟨xs,xs[i],q,by simp [hlt]⟩,Pv (i+1),λσ' H' p'=>⟨xs.length-(i+1),∅,rfl,hlt,p'⟩,λv H' y=>?_⟩
  obtain ⟨t,x,rfl,hn,rfl,y⟩:=y
  exact hs i x σ H t (y xs q) p hn
 ·have e:i=xs.length:=∅
  subst e
  exact .inl ⟨⟨xs,q,ao _⟩,hd σ H p⟩
end L2
end
section
namespace L2
open PySem.W
theorem wQ:∀(l:List Int),(∀n∈l,0<=n/\n<=2 ^ 20)->0<=l.sum/\l.sum<=2 ^ 20*l.length
 | [],_=>by simp
 | n::l,h=>by
  have ih:=wQ l λm hm=>h m (aD _ hm)
  have h0:=h n aG
  rw [mB,b7]
  constructor
  ·omega
  ·push_cast
   omega
section
variable {X:Cx}
theorem Y3 (K:aj) (hc:X.calm=true) (hK:X.K=K:=by rfl):qu X (.builtin "sum") (λxs H Q=>∃(p:Addr) (ns:List Int),xs=[.ref p]/\SqL K H p (ns.map V.int)/\ns.length<=1000/\(∀n∈ns,0<=n/\n<=2 ^ 20)/\Q (.int ns.sum) H):=by
 subst hK
 intro pins s σ H xs us Q I r h
 obtain ⟨p,ns,rfl,hq,hl,hb,q⟩:=h
 obtain ⟨u,rfl,ru⟩:=xU r
 cases ru
 obtain ⟨its,rv,pl,hz⟩:=I.list hq
 have hI:=qH rv
 have hlen:=hI.length
 have hne:p≠s.heap.objs.size:=by
  obtain ⟨o,n,e,_⟩:=id pl
  exact aA (ar e)
 refine pR (cM pl.isList ?_)
 refine ⟨s.heap.objs.size,_,_,_,_,_,λi=>ns.getD i 0,rfl,mK (show (X.A.in1).handled=none from I.ok.hd hc) s.heap.objs.size p hne its.toArray,⟨⟨_,az _ rfl,rfl,rfl⟩,pl.isList.at λo e=>ah _ e⟩,?_,?_,?_,?_⟩
 ·intro b hb'
  have hps:p<s.heap.objs.size:=by
   obtain ⟨o,n,e,_⟩:=id pl
   exact ar e
  show b<(s.heap.push _).objs.size
  rw [bK]
  rcases List.mem_cons.mp hb' with rfl | hb'
  ·exact dw _
  ·have e:b=p:=by simpa using hb'
   subst e
   exact bC hps
 ·intro i v hP
  have hP':its[i]? = some v:=by simpa using hP
  have hi:i<its.length:=(List.getElem?_eq_some_iff.mp hP').1
  obtain ⟨t,e⟩:=yU hI hi
  rw [e] at hP'
  refine ⟨t,?_⟩
  show v=eE (ns.getD i 0) t
  rw [ak,aa ∅]
  exact (aQ hP').symm
 ·intro j hj
  have hj':j<ns.length:=by
   have:its.toArray.size=its.length:=by simp
   omega
  constructor
  ·show InLong (ns.getD j 0)
   rw [ak,aa hj']
   have:=hb _ (bz hj')
   show -(2 ^ 63)<=ns[j]/\ns[j]<2 ^ 63
   omega
  ·rw [m9]
   have:=wQ (ns.take (j+1)) λn hn=>hb n (fV hn)
   have hl2:(ns.take (j+1)).length<=1000:=by rw [aM];omega
   show -(2 ^ 63)<=_/\_<2 ^ 63
   omega
 ·intro h' tk t' hk
  rw [m9,bI (by simp;omega)]
  refine ⟨.int ns.sum,H,I.kept (t':=tk) λb o eo=>hk b o (by
   intro z
   have:=List.mem_singleton.mp z
   subst this
   exact absurd (ar eo) (c3 _)) (ah _ eo),⟨t',rfl⟩,q⟩
theorem xO (K:aj) (h:X.K=K:=by rfl):qu X (.type "tuple") (λxs H Q=>∃p ys,xs=[.ref p]/\SqL K H p ys/\New H (.tup ys) Q):=by
 subst h
 exact wq.weak λ_ _ _ ⟨p,ys,h1,h2,q⟩=>⟨p,ys,h1,.inl ⟨h2,q.at⟩⟩
end
end L2
end
section
namespace L2
open PySem.W
structure Nb2 (mg:Str->Option ag):Prop extends Nb mg where
 b_enumerate:mg "enumerate" = none
 b_sorted:mg "sorted" = none
 b_sum:mg "sum" = none
abbrev Rch:=Int×List Int
def tos (rs:List Rch):List Int:=rs.map (·.1)
def xB (rs:List Rch) (r:Nat):Int:=(rs.getD r (-1,[])).1
def zh (rs:List Rch) (r:Nat):List Int:=(rs.getD r (-1,[])).2
def xq (i:Nat) (t:Int):Bool:=if i=0 then decide (t = -1) else decide (0<=t/\t<i)
def okR (i:Nat) (r:Rch):Bool:=xq i r.1 && decide (1<=(r.2.length:Int)/\(r.2.length:Int)<=12) && r.2.all λx=>decide (0<=x/\x<=99)
def vQ (rs:List Rch):Bool:=(aO rs.length).all λi=>okR i (rs.getD i (-1,[]))
def qX (rs:List Rch):Prop:=∀i,i<rs.length->xq i (xB rs i)=true
def jE (rs:List Rch) (h:Nat):Bool:=!decide ((h:Int)∈tos rs)
def jk (rs:List Rch):List Nat:=(aO rs.length).filter (jE rs)
def yq (rs:List Rch):Nat->Nat->List Int
 | 0,_=>[]
 | f+1,r=>(r:Int)::(if xB rs r<0 then [] else yq rs f (xB rs r).toNat)
def qh (rs:List Rch) (r:Nat):List Int:=yq rs (r+1) r
def ju (rs:List Rch) (way:List Int):Int:=(way.map λr=>((zh rs r.toNat).length:Int)).sum
def xY (rs:List Rch):Bool:=decide (1<=(rs.length:Int)/\(rs.length:Int)<=8) && (vQ rs && (decide (((jk rs).length:Int)<=6) && (jk rs).all λh=>decide (ju rs (qh rs h)<=30)))
theorem uP {i:Nat}{t:Int}(h:xq i t=true):t<i/\(-1<=t)/\(t<0->i=0):=by
 unfold xq at h
 by_cases hi:i=0
 ·rw [if_pos hi] at h
  have:=of_decide_eq_true h
  omega
 ·rw [if_neg hi] at h
  have:=of_decide_eq_true h
  omega
theorem XM {i:Nat}{r:Rch}(h:okR i r=true):xq i r.1=true:=by
 unfold okR at h
 rw [bh,bh] at h
 exact h.1.1
theorem kQ {rs:List Rch}(h:vQ rs=true) {i:Nat}{r:Rch}(hr:rs[i]? = some r):okR i r=true:=by
 unfold vQ at h
 rw [bN] at h
 have hi:=(List.getElem?_eq_some_iff.mp hr).1
 have:=h i (List.mem_range.mpr hi)
 rw [ak,hr] at this
 exact this
theorem jS {rs:List Rch}(h:vQ rs=true):qX rs:=λi hi=>by
 have:=XM (kQ h (aa hi))
 unfold xB
 rw [ak,aa hi]
 exact this
theorem ko {rs:List Rch}{i:Nat}{r:Rch}(h:rs[i]? = some r):xB rs i=r.1:=by
 unfold xB
 rw [ak,h]
 rfl
theorem kK {rs:List Rch}{i:Nat}{r:Rch}(h:rs[i]? = some r):zh rs i=r.2:=by
 unfold zh
 rw [ak,h]
 rfl
theorem qX.lt {rs:List Rch}(L:qX rs) {r:Nat}(hr:r<rs.length):xB rs r<r:=(uP (L r hr)).1
theorem kh {rs:List Rch}(L:qX rs):∀(f g r:Nat),r<rs.length->r<f->r<g->yq rs f r=yq rs g r
 | 0,_,_,_,h,_=>∅
 | _+1,0,_,_,_,h=>∅
 | f+1,g+1,r,hr,h1,h2=>by
  unfold yq
  by_cases ht:xB rs r<0
  ·rw [if_pos ht,if_pos ht]
  ·rw [if_neg ht,if_neg ht]
   have hl:=L.lt hr
   rw [kh L f g (xB rs r).toNat ∅ ∅ ∅]
theorem za {rs:List Rch}(L:qX rs) {r:Nat}(hr:r<rs.length):qh rs r=(r:Int)::(if xB rs r<0 then [] else qh rs (xB rs r).toNat):=by
 unfold qh
 rw [yq]
 by_cases ht:xB rs r<0
 ·rw [if_pos ht,if_pos ht]
 ·rw [if_neg ht,if_neg ht]
  have hl:=L.lt hr
  rw [kh L r ((xB rs r).toNat+1) (xB rs r).toNat ∅ ∅ ∅]
theorem Yp {rs:List Rch}(r:Nat):qh rs r≠[]:=by unfold qh yq;exact λz=>nomatch z
theorem yV {rs:List Rch}(L:qX rs):∀(r:Nat),r<rs.length->(qh rs r).length<=r+1
 | r,hr=>by
  rw [za L hr]
  by_cases ht:xB rs r<0
  ·rw [if_pos ht];simp
  ·rw [if_neg ht]
   have hl:=L.lt hr
   have:=yV L (xB rs r).toNat ∅
   rw [b7]
   omega
 termination_by r=>r
 decreasing_by omega
theorem xD {rs:List Rch}(L:qX rs):∀(r:Nat),r<rs.length->∀x∈qh rs r,0<=x/\x<rs.length
 | r,hr,x,hx=>by
  rw [za L hr] at hx
  rcases List.mem_cons.mp hx with rfl | hx
  ·omega
  ·by_cases ht:xB rs r<0
   ·rw [if_pos ht] at hx;cases hx
   ·rw [if_neg ht] at hx
    have hl:=L.lt hr
    exact xD L (xB rs r).toNat ∅ x hx
 termination_by r=>r
 decreasing_by omega
theorem x5 {rs:List Rch}{h:Nat}(hh:h∈jk rs):h<rs.length:=by
 have:=(List.mem_filter.mp hh).1
 exact List.mem_range.mp this
theorem qP (rs:List Rch) (r:Int) (way:List Int):ju rs (r::way)=((zh rs r.toNat).length:Int)+ju rs way:=by
 unfold ju
 rw [aN,mB]
theorem Zw {α:Type}{p:α->Bool}{l l':List α}(h:l.Perm l'):l.all p=l'.all p:=by
 rw [dP,bN,bN]
 exact ⟨λz x hx=>z x (h.mem_iff.mpr hx),λz x hx=>z x (h.mem_iff.mp hx)⟩
def jO (rs:List Rch) (ws:List (List Int)):Prop:=ws.Perm ((jk rs).map (qh rs))/\(ws.map cA).Pairwise uo.kle
theorem jO.length {rs:List Rch}{ws:List (List Int)}(h:jO rs ws):ws.length=(jk rs).length:=by rw [h.1.length_eq,af]
theorem jO.mem {rs:List Rch}{ws:List (List Int)}(h:jO rs ws) {w:List Int}(hw:w∈ws):∃x∈jk rs,w=qh rs x:=by
 obtain ⟨x,hx,e⟩:=List.mem_map.mp (h.1.mem_iff.mp hw)
 exact ⟨x,hx,e.symm⟩
theorem jO.all {rs:List Rch}{ws:List (List Int)}(h:jO rs ws):(ws.map λw=>decide (ju rs w<=30)).all (λb=>b)=(jk rs).all λx=>decide (ju rs (qh rs x)<=30):=by
 rw [fE,Zw h.1,fE]
 rfl
theorem zR {O:KeyOrd}:∀{l l':List O.α},l.Perm l'->l.Pairwise O.kle->l'.Pairwise O.kle->l=l'
 | [],l',h,_,_=>(List.nil_perm.mp h).symm
 | x::l,[],h,_,_=>by have:=h.length_eq;simp at this
 | x::l,y::l',h,h1,h2=>by
  have hx:=(List.pairwise_cons.mp h1)
  have hy:=(List.pairwise_cons.mp h2)
  have e:x=y:=by
   have m1:x∈y::l':=h.mem_iff.mp aG
   have m2:y∈x::l:=h.mem_iff.mpr aG
   rcases List.mem_cons.mp m1 with z | z
   ·exact z
   ·rcases List.mem_cons.mp m2 with z2 | z2
    ·exact z2.symm
    ·exact ia (hx.1 y z2) (hy.1 x z)
  subst e
  rw [zR (mQ h) hx.2 hy.2]
theorem jO.unique {rs:List Rch}{ws ws':List (List Int)}(h:jO rs ws) (h':jO rs ws'):ws=ws':=by
 have p:(ws.map cA).Perm (ws'.map cA):=(h.1.trans h'.1.symm).map _
 have e:=zR (O:=uo) p h.2 h'.2
 have e2:=congrArg (List.map cA) e
 rw [bF,bF,show (cA ∘ cA:List Int->List Int)=id from funext λx=>eB x,ma,ma] at e2
 exact e2
theorem J8 (rs:List Rch) (t:Int) (hs:List Int):tos (rs++[(t,hs)])=tos rs++[t]:=by unfold tos;rw [aB];rfl
theorem vS {rs:List Rch}{x d:Rch}{i:Nat}(h:i<rs.length):(rs++[x]).getD i d=rs.getD i d:=by
 rw [ak,ak,cD h]
theorem x6 {rs:List Rch}{x d:Rch}:(rs++[x]).getD rs.length d=x:=by
 rw [ak,cw (ao _),Nat.sub_self]
 rfl
theorem wE {rs:List Rch}{x:Rch}(h:vQ rs=true) (hx:okR rs.length x=true):vQ (rs++[x])=true:=by
 unfold vQ at h ⊢
 rw [bN] at h ⊢
 intro i hi
 have hi':i<rs.length+1:=by have:=List.mem_range.mp hi;rw [ax,aW] at this;exact this
 by_cases hlt:i<rs.length
 ·rw [vS hlt];exact h i (List.mem_range.mpr hlt)
 ·have e:i=rs.length:=∅
  subst e
  rw [x6];exact hx
theorem wf {rs:List Rch}{x:Rch}(L:qX rs):∀(f r:Nat),r<rs.length->yq (rs++[x]) f r=yq rs f r
 | 0,_,_=>rfl
 | f+1,r,hr=>by
  have e:xB (rs++[x]) r=xB rs r:=by unfold xB;rw [vS hr]
  unfold yq
  rw [e]
  by_cases ht:xB rs r<0
  ·rw [if_pos ht,if_pos ht]
  ·rw [if_neg ht,if_neg ht,wf L f _ (by have:=L.lt hr;omega)]
theorem yh {rs:List Rch}{x:Rch}(L:qX rs) {r:Nat}(hr:r<rs.length):qh (rs++[x]) r=qh rs r:=wf L _ r hr
theorem xE {rs:List Rch}{x:Rch}:∀(way:List Int),(∀r∈way,0<=r/\r<rs.length)->ju (rs++[x]) way=ju rs way
 | [],_=>rfl
 | r::way,h=>by
  have h0:=h r aG
  rw [qP,qP,xE way λy hy=>h y (aD _ hy)]
  congr 2
  unfold zh
  rw [vS ∅]
theorem Q6 {rs:List Rch}(L:qX rs) {t:Int}(h:t∈tos rs):t+1<rs.length:=by
 unfold tos at h
 obtain ⟨r,hr,rfl⟩:=List.mem_map.mp h
 obtain ⟨i,hi,e⟩:=List.mem_iff_getElem.mp hr
 have:=L.lt hi
 rw [ko (aa hi),e] at this
 omega
theorem Qi {rs:List Rch}{t:Int}{hs:List Int}(L:qX rs) (h0:0<=t) (h1:t<rs.length) :
  (jk (rs++[(t,hs)])).length=if t∈tos rs then (jk rs).length+1 else (jk rs).length:=by
 unfold jk
 rw [ax,aW,cC,cn,ax]
 have e1:(fg (jE (rs++[(t,hs)])) [rs.length]).length=1:=by
  have:jE (rs++[(t,hs)]) rs.length=true:=by
   unfold jE
   rw [J8,decide_eq_false]
   ·rfl
   ·intro z
    rcases List.mem_append.mp z with z | z
    ·have:=Q6 L z;omega
    ·have:(rs.length:Int)=t:=by simpa using z
     omega
  simp [this]
 rw [e1]
 have e2:∀h,jE (rs++[(t,hs)]) h=(jE rs h && !decide ((h:Int)=t)):=λh=>by
  unfold jE
  rw [J8]
  by_cases a:(h:Int)∈tos rs
  ·rw [decide_eq_true (fS _ a),decide_eq_true a];rfl
  ·rw [decide_eq_false a]
   by_cases b:(h:Int)=t
   ·rw [decide_eq_true (aE _ (by simp [b])),decide_eq_true b];rfl
   ·rw [decide_eq_false (λz=>(List.mem_append.mp z).elim a λy=>b (by simpa using y)),decide_eq_false b];rfl
 have e3:fg (jE (rs++[(t,hs)])) (aO rs.length)=fg (λh:Nat=>!decide ((h:Int)=t)) (fg (jE rs) (aO rs.length)):=by
  rw [List.filter_filter]
  congr 1
  funext h
  rw [e2,Bool.and_comm]
 rw [e3]
 have nd:(fg (jE rs) (aO rs.length)).Nodup:=List.Nodup.sublist List.filter_sublist List.nodup_range
 generalize hl:fg (jE rs) (aO rs.length)=l at nd
 have cnt:∀(l:List Nat),l.Nodup->(fg (λh:Nat=>!decide ((h:Int)=t)) l).length=if t.toNat∈l then l.length-1 else l.length:=by
  intro l
  induction l with
  | nil=>intro _;rfl
  | cons x l ih =>
   intro nd
   have nd':=List.nodup_cons.mp nd
   have ih:=ih nd'.2
   by_cases b:(x:Int)=t
   ·have hx:x=t.toNat:=∅
    rw [fh (by simp [b]),ih,if_neg (by rw [<- hx];exact nd'.1),if_pos (by rw [hx];exact aG)]
    simp
   ·have hx:t.toNat≠x:=∅
    rw [fi (by simp [b]),b7,ih]
    by_cases m:t.toNat∈l
    ·rw [if_pos m,if_pos (aD _ m),b7]
     have:0<l.length:=fF m
     omega
    ·rw [if_neg m,if_neg (λz=>(List.mem_cons.mp z).elim hx m)]
     simp
 rw [cnt l nd]
 have hm:t.toNat∈l↔¬t∈tos rs:=by
  rw [<- hl,List.mem_filter,List.mem_range]
  unfold jE
  have e:((t.toNat:Nat):Int)=t:=∅
  rw [e]
  constructor
  ·rintro ⟨_,z⟩ y
   rw [decide_eq_true y] at z
   cases z
  ·intro z
   exact ⟨∅,by rw [decide_eq_false z];rfl⟩
 by_cases m:t∈tos rs
 ·rw [if_pos m,if_neg (by rw [hm];exact λz=>z m)]
 ·rw [if_neg m,if_pos (by rw [hm];exact m)]
  have:0<l.length:=fF (hm.mpr m)
  omega
structure Grown (rs:List Rch):Prop where
 ok:vQ rs=true
 heads:(jk rs).length<=6
 deep:∀i,i<rs.length->ju rs (qh rs i)<=30
theorem Grown.snoc {rs:List Rch}{t:Int}{hs:List Int}(G:Grown rs) (h0:0<=t) (h1:t<rs.length) (hx:okR rs.length (t,hs)=true) (hh:t∈tos rs->(jk rs).length<6) (hd:ju rs (qh rs t.toNat)+hs.length<=30):Grown (rs++[(t,hs)]):=by
 have L:=jS G.ok
 have ok':=wE G.ok hx
 refine ⟨ok',?_,λi hi=>?_⟩
 ·rw [Qi L h0 h1]
  split
  ·rename_i m;have:=hh m;omega
  ·exact G.heads
 ·rw [ax,aW] at hi
  by_cases hlt:i<rs.length
  ·rw [yh L hlt,xE _ (xD L i hlt)]
   exact G.deep i hlt
  ·have e:i=rs.length:=∅
   subst e
   have L':=jS ok'
   have et:xB (rs++[(t,hs)]) rs.length=t:=by unfold xB;rw [x6]
   have eh:zh (rs++[(t,hs)]) rs.length=hs:=by unfold zh;rw [x6]
   rw [za L' (by rw [ax,aW];omega),qP,bg,eh,et,if_neg ∅,yh L ∅,xE _ (xD L _ ∅)]
   omega
theorem Grown.good {rs:List Rch}(G:Grown rs) (h1:1<=rs.length) (h8:rs.length<=8):xY rs=true:=by
 unfold xY
 rw [decide_eq_true (show 1<=(rs.length:Int)/\(rs.length:Int)<=8 by omega),G.ok,decide_eq_true (show ((jk rs).length:Int)<=6 by have:=G.heads;omega),dW,dW,dW,bN]
 intro h hh
 exact decide_eq_true (G.deep h (x5 hh))
theorem Grown.deep_snoc {rs:List Rch}{t:Int}{hs:List Int}(G:Grown rs) (h0:0<=t) (h1:t<rs.length) (hx:okR rs.length (t,hs)=true):ju (rs++[(t,hs)]) (qh (rs++[(t,hs)]) rs.length)=ju rs (qh rs t.toNat)+hs.length:=by
 have L:=jS G.ok
 have L':=jS (wE G.ok hx)
 have et:xB (rs++[(t,hs)]) rs.length=t:=by unfold xB;rw [x6]
 have eh:zh (rs++[(t,hs)]) rs.length=hs:=by unfold zh;rw [x6]
 rw [za L' (by rw [ax,aW];omega),qP,bg,eh,et,if_neg ∅,yh L ∅,xE _ (xD L _ ∅)]
 omega
def ji (H H':Hp):Prop:=∀p xs,H p=some (.tup xs)->H' p=some (.tup xs)
theorem ji.same {H H':Hp}(s:jm H H'):ji H H':=λ_ _ h=>s _ _ h
theorem ji.trans {H H1 H2:Hp}(a:ji H H1) (b:ji H1 H2):ji H H2:=λp xs h=>b p xs (a p xs h)
theorem ji.ext {b:Addr}{H H':Hp}(e:Ext b H H') (h:∀xs,H b≠some (.tup xs)):ji H H':=λp xs q=>e _ _ q λz=>h xs (z ▸ q)
theorem ji.lst {b:Addr}{H H':Hp}{xs:List V}(e:Ext b H H') (h:H b=some (.lst xs)):ji H H':=.ext e λys z=>by rw [h] at z;cases z
theorem ji.new {b:Addr}{H H':Hp}(e:Ext b H H') (h:H b=none):ji H H':=.ext e λys z=>by rw [h] at z;cases z
theorem ji.tbl {b:Addr}{H H':Hp}{ps:Array ag}(e:Ext b H H') (h:H b=some (.tbl ps)):ji H H':=.ext e λys z=>by rw [h] at z;cases z
def kI (H:Hp) (v:V) (r:Rch):Prop:=∃p g,v=V.ref p/\H p=some (.tup [.int r.1,.ref g])/\H g=some (.tup (r.2.map V.int))
def jJ (H:Hp) (vs:List V) (rs:List Rch):Prop:=cO (kI H) vs rs
theorem kI.keep {H H':Hp}{v:V}{r:Rch}(k:ji H H') (h:kI H v r):kI H' v r:=by
 obtain ⟨p,g,e,h1,h2⟩:=h
 exact ⟨p,g,e,k _ _ h1,k _ _ h2⟩
theorem jJ.keep {H H':Hp}{vs:List V}{rs:List Rch}(k:ji H H') (h:jJ H vs rs):jJ H' vs rs:=Paired.mapP h λ_ _ z=>z.keep k
theorem jJ.length {H:Hp}{vs:List V}{rs:List Rch}(h:jJ H vs rs):vs.length=rs.length:=b8 h
theorem jJ.get {H:Hp}{vs:List V}{rs:List Rch}{i:Nat}{v:V}(h:jJ H vs rs) (e:vs[i]? = some v):∃r,rs[i]? = some r/\kI H v r:=Paired.get h e
theorem jJ.at {H:Hp}{vs:List V}{rs:List Rch}{i:Nat}{r:Rch}(h:jJ H vs rs) (e:rs[i]? = some r):∃v,vs[i]? = some v/\kI H v r:=by
 have hi:i<vs.length:=by rw [h.length];exact (List.getElem?_eq_some_iff.mp e).1
 obtain ⟨r',e2,q⟩:=h.get (aa hi)
 rw [e] at e2
 cases e2
 exact ⟨_,aa hi,q⟩
theorem jJ.snoc {H:Hp}{vs:List V}{rs:List Rch}{v:V}{r:Rch}(h:jJ H vs rs) (q:kI H v r):jJ H (vs++[v]) (rs++[r]):=cW h q
def zx (H:Hp) (vs:List V) (ws:List (List Int)):Prop:=cO (λv (w:List Int)=>∃a,v=V.ref a/\H a=some (.tup (w.map V.int))) vs ws
theorem zx.keep {H H':Hp}{vs:List V}{ws:List (List Int)}(k:ji H H') (h:zx H vs ws):zx H' vs ws:=Paired.mapP h λ_ _ ⟨a,e,q⟩=>⟨a,e,k _ _ q⟩
theorem zx.length {H:Hp}{vs:List V}{ws:List (List Int)}(h:zx H vs ws):vs.length=ws.length:=b8 h
theorem yW (x:Int) (l:List Int):inV (.int x) (l.map V.int)=decide (x∈l):=by
 unfold inV
 induction l with
 | nil=>rfl
 | cons y l ih =>
  rw [aN,eO,ih]
  by_cases e:x=y
  ·subst e
   rw [decide_eq_true (aG (a:=x))]
   simp [eqV]
  ·by_cases m:x∈l
   ·rw [decide_eq_true m,decide_eq_true (aD _ m),Bool.or_true]
   ·rw [decide_eq_false m,decide_eq_false (λz=>(List.mem_cons.mp z).elim e m),Bool.or_false]
    simp [eqV]
    exact λz=>e z.symm
theorem yg (l:List Int):(l.map V.int).all yR=true:=by
 rw [fE,bN]
 intro x _
 rfl
end L2
end
section
namespace L2
open PySem.W
section
variable {prog:Program}{w:aV}{A:ba}{E:ag->Shared->Prop}{s:Shared}
end
end L2
end
section
namespace L2
open PySem.W
section
variable {X:Cx}
end
end L2
end
section
namespace L2
open PySem.W
end L2
end
section
namespace L2
open PySem.W
section
variable {s:Shared}{A:ba}{prog:Program}{w:aV}{E:ag->Shared->Prop}
theorem Uh {it t:Addr}{k:Nat}{its:Array ag}{v:ag}{Q:ag->Shared->Prop}(q:s.heap.IsTupleIter it t k) (p:s.heap.IsTuple t its) (e:its[k]? = some v)
  (z:∀g,g.IsTupleIter it t (k+1)->dJ it s.heap g->Q v { s with heap:=g }):ay (aC prog w) A (bj (.ref it)) Q E s:=by
 obtain ⟨ob,gb,cb,db⟩:=id q;obtain ⟨ot,gt,_,nt,dt⟩:=p;unfold bj
 refine ae (cN (name:=ai "__next__") q.typeIs d4 (cY d4 q.typeIs ig ?_ (i5 _)))
 show ay _ _ (pz (.ref it) 0 >>= _) _ _ s;refine ae (bE gb db (x:=.ref t) rfl ?_)
 show ay _ _ (if (b0 t == aT)=true then _ else _) _ _ s;rw [if_neg (show ¬((b0 t == aT)=true) from aq)]
 show ay _ _ (pz (.ref it) 1 >>= _) _ _ s;refine ae (bE gb db (x:=.int k 0) rfl ?_)
 show ay _ _ (nX (.ref t) >>= _) _ _ s;refine ae (cg gt dt ?_)
 simp only [bg,e]
 refine ae (fG gb db (by simp) (wpAny_pure ⟨v,rfl,wpAny_pure (z _ ⟨_,cE _ gb (dX (dN db _)),(nA ..).trans cb,by rw [dN db];simp [bS]⟩ (mn ..))⟩))
theorem Ul {it t:Addr}{k:Nat}{its:Array ag}{Q:ag->Shared->Prop}(hh:A.handled=none) (q:s.heap.IsTupleIter it t k) (p:s.heap.IsTuple t its) (e:its[k]? = none)
  (z:∀g x,Heap.ExtBut it s.heap g->(∃o,g.get? x=some o/\o.cls = .type "StopIteration")->E (.ref x) { s with heap:=g }):ay (aC prog w) A (bj (.ref it)) Q E s:=by
 obtain ⟨ob,gb,cb,db⟩:=id q;obtain ⟨ot,gt,_,nt,dt⟩:=p;unfold bj
 refine ae (cN (name:=ai "__next__") q.typeIs d4 (cY d4 q.typeIs ig ?_ (i5 _)))
 show ay _ _ (pz (.ref it) 0 >>= _) _ _ s;refine ae (bE gb db (x:=.ref t) rfl ?_)
 show ay _ _ (if (b0 t == aT)=true then _ else _) _ _ s;rw [if_neg (show ¬((b0 t == aT)=true) from aq)]
 show ay _ _ (pz (.ref it) 1 >>= _) _ _ s;refine ae (bE gb db (x:=.int k 0) rfl ?_)
 show ay _ _ (nX (.ref t) >>= _) _ _ s;refine ae (cg gt dt ?_)
 simp only [bg,e]
 refine ae (eY (ae (fG gb db (by simp) ?_)))
 show ay _ _ (newExc (.type "StopIteration") [] >>= _) _ _ _;refine ae ?_;simp only [newExc,newTuple]
 refine ae (bV ?_ (by size_fits));refine ae (m:=pA _ _) (ow (a:=aT) (by first | rfl | (simp only [pA];rfl)) ?_)
 refine bV ?_ (by size_fits);simp only [raiseNew];refine ae (wpAny_handled ?_);first | rw [hh] | rw [show A.in1.handled=none from hh]
 exact ae (wpAny_pure (wpAny_throw (z _ _ (((mn ..).extBut.push _).push _) ⟨_,az _ rfl,rfl⟩)))
structure Feeds (prog:Program) (w:aV) (i l:Addr) (xs:Array ag) (S:Nat->Heap->Prop):Prop where
 keep:∀k h h',S k h->(∀o,h.get? i=some o->h'.get? i=some o)->(∀o,h.get? l=some o->h'.get? l=some o)->S k h'
 obj:∀k h,S k h->∃o,h.get? i=some o/\∀v,o.data≠.cell v
 item:∀(A:ba) (E:ag->Shared->Prop) (k:Nat) (x:ag) (s:Shared) (Q:ag->Shared->Prop),S k s.heap->xs[k]? = some x->(∀g,S (k+1) g->dJ i s.heap g->Q x { s with heap:=g })->ay (aC prog w) A (bj (.ref i)) Q E s
 done:∀(A:ba) (E:ag->Shared->Prop) (k:Nat) (s:Shared) (Q:ag->Shared->Prop),A.handled=none->S k s.heap->xs[k]? = none->(∀g x,Heap.ExtBut i s.heap g->(∃o,g.get? x=some o/\o.cls = .type "StopIteration")->E (.ref x) { s with heap:=g })->ay (aC prog w) A (bj (.ref i)) Q E s
theorem Feeds.but {i l b:Addr}{xs:Array ag}{S:Nat->Heap->Prop}(f:Feeds prog w i l xs S) {k:Nat}{h h':Heap}(q:S k h) (sb:dJ b h h') (n1:i≠b) (n2:l≠b):S k h':=f.keep k h h' q (λo e=>sb.extBut _ _ n1 e) λo e=>sb.extBut _ _ n2 e
theorem Qt {i l:Addr}{xs:Array ag}(n:l≠i):Feeds prog w i l xs λk h=>h.IsListIter i l k/\h.IsList l xs where
 keep:=λk h h' q k1 k2=>⟨q.1.at λo e=>k1 o e,q.2.at λo e=>k2 o e⟩
 obj:=λk h q=>by obtain ⟨o,e,_,d⟩:=q.1;exact ⟨o,e,λv z=>by rw [d] at z;cases z⟩
 item:=λA E k x s Q q e z=>wpAny_nextOf_list_item q.1 q.2 e λg q1 sb=>z g ⟨q1,q.2.extBut sb.extBut n⟩ sb
 done:=λA E k s Q hh q e z=>wpAny_nextOf_list_end hh q.1 q.2 e z
theorem Xo {i l:Addr}{xs:Array ag}(n:l≠i):Feeds prog w i l xs λk h=>h.IsTupleIter i l k/\h.IsTuple l xs where
 keep:=λk h h' q k1 k2=>⟨q.1.at λo e=>k1 o e,let ⟨o,e,r⟩:=q.2;⟨o,k2 o e,r⟩⟩
 obj:=λk h q=>by obtain ⟨o,e,_,d⟩:=q.1;exact ⟨o,e,λv z=>by rw [d] at z;cases z⟩
 item:=λA E k x s Q q e z=>Uh q.1 q.2 e λg q1 sb=>z g ⟨q1,q.2.extBut sb.extBut n⟩ sb
 done:=λA E k s Q hh q e z=>Ul hh q.1 q.2 e z
theorem Zz {z TI TO i1 i2 l1 l2:Addr}{k1 k2:Nat}{xs ys:Array ag}{x y a b:ag}{S1 S2:Nat->Heap->Prop}{Q:ag->Shared->Prop}(D:md z TI TO i1 i2 l1 l2) (f1:Feeds prog w i1 l1 xs S1) (f2:Feeds prog w i2 l2 ys S2)
  (g0:iC s.heap z TI TO .none) (gI:dr s.heap TI (.ref i1) (.ref i2)) (gO:dr s.heap TO a b) (q1:S1 k1 s.heap) (q2:S2 k2 s.heap) (ex:xs[k1]? = some x) (ey:ys[k2]? = some y)
  (R:∀g,iC g z TI TO (bS s.heap.objs.size)->dr g TO x y->S1 (k1+1) g->S2 (k2+1) g->dr g s.heap.objs.size x y->g.objs.size=s.heap.objs.size+1 ->
   (∀c o,c≠z->c≠TO->c≠i1->c≠i2->s.heap.get? c=some o->g.get? c=some o)->Q (.ref s.heap.objs.size) { s with heap:=g }):ay (aC prog w) A (dY.«zip.__next__» ⟨[.ref z],[]⟩) (λfin s'=>∃v,fin = .done (.ret v)/\Q v s') E s:=by
 show ay _ _ (pz (.ref z) 2 >>= _) _ _ _;refine ae (bE g0 rfl (x:=.bool false) rfl ?_)
 show ay _ _ (pz (.ref z) 3 >>= _) _ _ _;refine ae (bE g0 rfl (x:=.ref TI) rfl ?_)
 refine ae (cg gI rfl ?_);show ay _ _ (cj (.ref z) >>= _) _ _ _
 refine ae ?_;unfold cj;refine ae (bE g0 rfl (x:=.none) rfl (wpAny_pure ?_));simp only [if_true]
 refine ae (eY ?_);refine ae (bE g0 rfl (x:=.ref TO) rfl ?_)
 refine ae (d5 g0 (by simp) λh1 g1 e1=>?_)
 replace g1:iC h1 z TI TO .ellipsis:=g1
 refine ae ?_;simp only [nZ,oC,i4,pC]
 refine ae (ae (iO ?_));show ay _ _ (bj (.ref i1) >>= _) _ _ _
 refine ae (f1.item _ _ k1 x _ _ (f1.but q1 e1 D.i1z D.l1z) ex λh2 q1' e2=>wpAny_pure ?_)
 have gO2:dr h2 TO a b:=e2.extBut _ _ D.TOi1 (e1.extBut _ _ D.TOz gO)
 refine ae (cg gO2 rfl ?_);refine ae (fW gO2 λh3 gO3 e3=>?_)
 replace gO3:dr h3 TO x b:=gO3
 refine ae (eA (wpAny_pure ?_));refine ae (ae (iO ?_));show ay _ _ (bj (.ref i2) >>= _) _ _ _
 refine ae (f2.item _ _ k2 y _ _ (f2.but (f2.but (f2.but q2 e1 D.i2z D.l2z) e2 D.i12.symm D.l2i1) e3 D.TOi2.symm D.l2TO) ey λh4 q2' e4=>wpAny_pure ?_)
 have gO4:dr h4 TO x b:=e4.extBut _ _ D.TOi2 gO3
 refine ae (cg gO4 rfl ?_);refine ae (fW gO4 λh5 gO5 e5=>?_)
 replace gO5:dr h5 TO x y:=gO5
 refine ae (eA (wpAny_pure (wpAny_pure ?_)));refine ae (cg gO5 rfl ?_);refine ae (iA ?_)
 have sz:h5.objs.size=s.heap.objs.size:=by rw [e5.1,e4.1,e3.1,e2.1,e1.1]
 have g5:iC h5 z TI TO .ellipsis:=e5.extBut _ _ D.TOz.symm (e4.extBut _ _ D.i2z.symm (e3.extBut _ _ D.TOz.symm (e2.extBut _ _ D.i1z.symm g1)))
 have k5:∀c o,c≠z->c≠TO->c≠i1->c≠i2->s.heap.get? c=some o->h5.get? c=some o:=λc o n1 n2 n3 n4 e=>e5.extBut _ _ n2 (e4.extBut _ _ n4 (e3.extBut _ _ n2 (e2.extBut _ _ n3 (e1.extBut _ _ n1 e))))
 have q15:S1 (k1+1) h5:=f1.but (f1.but (f1.but q1' e3 D.TOi1.symm D.l1TO) e4 D.i12 D.l1i2) e5 D.TOi1.symm D.l1TO
 have q25:S2 (k2+1) h5:=f2.but q2' e5 D.TOi2.symm D.l2TO
 have lz:z<h5.objs.size:=ar g5
 show ay _ _ (eL (.ref z) (.ref h5.objs.size) >>= _) _ _ _;refine ae ?_;unfold eL
 have g6:iC (h5.push { cls:=.type "tuple",data:=.seq #[x,y] }) z TI TO .ellipsis:=ah _ g5
 refine ae (d5 g6 (by simp) λh7 g7 e7=>?_)
 replace g7:iC h7 z TI TO (bS h5.objs.size):=g7
 refine d5 g7 (by simp) λh8 g8 e8=>?_
 replace g8:iC h8 z TI TO (bS h5.objs.size):=g8
 have up:∀c o,c≠z->h5.get? c=some o->h8.get? c=some o:=λc o n e=>e8.extBut _ _ n (e7.extBut _ _ n (ah _ e))
 have gT:dr h8 h5.objs.size x y:=e8.extBut _ _ (cq lz) (e7.extBut _ _ (cq lz) (az _ rfl))
 have sz8:h8.objs.size=h5.objs.size+1:=by rw [e8.1,e7.1,bK]
 rw [sz] at g8 gT sz8
 refine wpAny_pure ⟨_,rfl,?_⟩;show Q (.ref h5.objs.size) _;rw [sz]
 exact R h8 g8 (up _ _ D.TOz gO5) (f1.keep _ _ _ q15 (λo e=>up _ o D.i1z e) λo e=>up _ o D.l1z e) (f2.keep _ _ _ q25 (λo e=>up _ o D.i2z e) λo e=>up _ o D.l2z e) gT sz8 λc o n1 n2 n3 n4 e=>up c o n1 (k5 c o n1 n2 n3 n4 e)
theorem ZQ {z TI TO i1 i2 l1 l2:Addr}{k1 k2:Nat}{xs ys:Array ag}{a b:ag}{S1 S2:Nat->Heap->Prop}{Q:Fin->Shared->Prop}(hh:A.handled=none) (D:md z TI TO i1 i2 l1 l2) (f1:Feeds prog w i1 l1 xs S1) (f2:Feeds prog w i2 l2 ys S2)
  (g0:iC s.heap z TI TO .none) (gI:dr s.heap TI (.ref i1) (.ref i2)) (gO:dr s.heap TO a b) (q1:S1 k1 s.heap) (q2:S2 k2 s.heap) (ed:xs[k1]? = none\/ys[k2]? = none)
  (R:∀g e,(∀c o,c≠z->c≠TO->c≠i1->c≠i2->s.heap.get? c=some o->g.get? c=some o)->(∃o,g.get? e=some o/\o.cls = .type "StopIteration")->E (.ref e) { s with heap:=g }):ay (aC prog w) A (dY.«zip.__next__» ⟨[.ref z],[]⟩) Q E s:=by
 show ay _ _ (pz (.ref z) 2 >>= _) _ _ _;refine ae (bE g0 rfl (x:=.bool false) rfl ?_)
 show ay _ _ (pz (.ref z) 3 >>= _) _ _ _;refine ae (bE g0 rfl (x:=.ref TI) rfl ?_)
 refine ae (cg gI rfl ?_);show ay _ _ (cj (.ref z) >>= _) _ _ _
 refine ae ?_;unfold cj;refine ae (bE g0 rfl (x:=.none) rfl (wpAny_pure ?_));simp only [if_true]
 refine ae (eY ?_);refine ae (bE g0 rfl (x:=.ref TO) rfl ?_)
 refine ae (d5 g0 (by simp) λh1 g1 e1=>?_)
 replace g1:iC h1 z TI TO .ellipsis:=g1
 refine ae ?_;simp only [nZ,oC,i4,pC]
 refine ae (ae (iO ?_));show ay _ _ (bj (.ref i1) >>= _) _ _ _
 cases ex:xs[k1]? with
 | none =>
  refine ae (f1.done _ _ k1 _ _ hh (f1.but q1 e1 D.i1z D.l1z) ex λh2 e e2 he=>?_)
  obtain ⟨oe,ge,ce⟩:=he
  have g2:iC h2 z TI TO .ellipsis:=e2 _ _ D.i1z.symm g1
  have ne:e≠z:=λq=>by subst q;rw [g2] at ge;cases ge;simp at ce
  exact d5 g2 (by simp) λh3 _ e3=>R h3 e (λc o n1 _ n3 _ q=>e3.extBut _ _ n1 (e2 _ _ n3 (e1.extBut _ _ n1 q))) ⟨oe,e3.extBut _ _ ne ge,ce⟩
 | some x =>
  have ey:ys[k2]? = none:=by rcases ed with q | q;rw [ex] at q;cases q;exact q
  refine ae (f1.item _ _ k1 x _ _ (f1.but q1 e1 D.i1z D.l1z) ex λh2 q1' e2=>wpAny_pure ?_)
  have gO2:dr h2 TO a b:=e2.extBut _ _ D.TOi1 (e1.extBut _ _ D.TOz gO)
  refine ae (cg gO2 rfl ?_);refine ae (fW gO2 λh3 gO3 e3=>?_)
  refine ae (eA (wpAny_pure ?_));refine ae (ae (iO ?_));show ay _ _ (bj (.ref i2) >>= _) _ _ _
  refine ae (f2.done _ _ k2 _ _ hh (f2.but (f2.but (f2.but q2 e1 D.i2z D.l2z) e2 D.i12.symm D.l2i1) e3 D.TOi2.symm D.l2TO) ey λh4 e e4 he=>?_)
  obtain ⟨oe,ge,ce⟩:=he
  have g4:iC h4 z TI TO .ellipsis:=e4 _ _ D.i2z.symm (e3.extBut _ _ D.TOz.symm (e2.extBut _ _ D.i1z.symm g1))
  have ne:e≠z:=λq=>by subst q;rw [g4] at ge;cases ge;simp at ce
  exact d5 g4 (by simp) λh5 _ e5=>R h5 e (λc o n1 n2 n3 n4 q=>e5.extBut _ _ n1 (e4 _ _ n4 (e3.extBut _ _ n2 (e2.extBut _ _ n3 (e1.extBut _ _ n1 q))))) ⟨oe,e5.extBut _ _ ne ge,ce⟩
theorem UK {z TI TO i1 i2 l1 l2:Addr}{k1 k2:Nat}{xs ys:Array ag}{x y a b:ag}{S1 S2:Nat->Heap->Prop}{Q:Option ag->Shared->Prop}(D:md z TI TO i1 i2 l1 l2) (f1:Feeds prog w i1 l1 xs S1) (f2:Feeds prog w i2 l2 ys S2)
  (g0:iC s.heap z TI TO .none) (gI:dr s.heap TI (.ref i1) (.ref i2)) (gO:dr s.heap TO a b) (q1:S1 k1 s.heap) (q2:S2 k2 s.heap) (ex:xs[k1]? = some x) (ey:ys[k2]? = some y)
  (R:∀g,iC g z TI TO (bS s.heap.objs.size)->dr g TO x y->S1 (k1+1) g->S2 (k2+1) g->dr g s.heap.objs.size x y->g.objs.size=s.heap.objs.size+1 ->
   (∀c o,c≠z->c≠TO->c≠i1->c≠i2->s.heap.get? c=some o->g.get? c=some o)->Q (some (.ref s.heap.objs.size)) { s with heap:=g }):ay (aC prog w) A (fq (.ref z)) Q E s:=by
 have ty:s.TypeIs (.ref z) "zip":=⟨_,g0,rfl⟩
 unfold fq;exact ae (mz (cN (name:=ai "__next__") ty i6 (cY i6 ty o8
   (Zz D f1 f2 g0 gI gO q1 q2 ex ey λg a1 a2 a3 a4 a5 a6 a7=>wpAny_pure (R g a1 a2 a3 a4 a5 a6 a7)) (nB _))))
theorem Ui {z TI TO i1 i2 l1 l2:Addr}{k1 k2:Nat}{xs ys:Array ag}{a b:ag}{S1 S2:Nat->Heap->Prop}{Q:Option ag->Shared->Prop}(hh:A.handled=none) (D:md z TI TO i1 i2 l1 l2) (f1:Feeds prog w i1 l1 xs S1) (f2:Feeds prog w i2 l2 ys S2)
  (g0:iC s.heap z TI TO .none) (gI:dr s.heap TI (.ref i1) (.ref i2)) (gO:dr s.heap TO a b) (q1:S1 k1 s.heap) (q2:S2 k2 s.heap) (ed:xs[k1]? = none\/ys[k2]? = none)
  (R:∀g,(∀c o,c≠z->c≠TO->c≠i1->c≠i2->s.heap.get? c=some o->g.get? c=some o)->Q none { s with heap:=g }):ay (aC prog w) A (fq (.ref z)) Q E s:=by
 have ty:s.TypeIs (.ref z) "zip":=⟨_,g0,rfl⟩
 unfold fq;refine ae (mz (cN (name:=ai "__next__") ty i6 (cY i6 ty o8 (ZQ hh D f1 f2 g0 gI gO q1 q2 ed λg e hk he=>?_) (nB _))))
 obtain ⟨o,ho,hc⟩:=he
 exact ae (wpAny_isInstance (T:="StopIteration") (b:=true) ⟨o,ho,hc⟩ isSubtype_stop (wpAny_pure (R _ hk)))
def VN (t:Bool):String:=match t with | true=>"tuple_iterator" | false=>"list_iterator"
def ItK (t:Bool) (h:Heap) (i l:Addr) (k:Nat):Prop:=match t with | true=>h.IsTupleIter i l k | false=>h.IsListIter i l k
def IsK (t:Bool) (h:Heap) (l:Addr) (xs:Array ag):Prop:=match t with | true=>h.IsTuple l xs | false=>h.IsList l xs
def SqK (t:Bool) (K:aj) (H:Hp) (a:Addr) (xs:List V):Prop:=match t with | true=>SqT K H a xs | false=>SqL K H a xs
theorem IsK.at {t:Bool}{h h':Heap}{l:Addr}{xs:Array ag}(q:IsK t h l xs) (k:∀o,h.get? l=some o->h'.get? l=some o):IsK t h' l xs:=by
 cases t with
 | true=>obtain ⟨o,e,r⟩:=q;exact ⟨o,k o e,r⟩
 | false=>exact Heap.IsList.at q λo e=>k o e
theorem IsK.lt {t:Bool}{h:Heap}{l:Addr}{xs:Array ag}(q:IsK t h l xs):l<h.objs.size:=by
 cases t with
 | true=>obtain ⟨o,e,r⟩:=q;exact ar e
 | false=>obtain ⟨o,e,r⟩:=q;exact ar e
theorem ItK.at {t:Bool}{h h':Heap}{i l:Addr}{k:Nat}(q:ItK t h i l k) (f:∀o,h.get? i=some o->h'.get? i=some o):ItK t h' i l k:=by
 cases t with
 | true=>obtain ⟨o,e,r⟩:=q;exact ⟨o,f o e,r⟩
 | false=>obtain ⟨o,e,r⟩:=q;exact ⟨o,f o e,r⟩
theorem ItK.obj {t:Bool}{h:Heap}{i l:Addr}{k:Nat}(q:ItK t h i l k):∃o,h.get? i=some o/\∀v,o.data≠.cell v:=by
 cases t with
 | true=>obtain ⟨o,e,_,d⟩:=q;exact ⟨o,e,λv z=>by rw [d] at z;cases z⟩
 | false=>obtain ⟨o,e,_,d⟩:=q;exact ⟨o,e,λv z=>by rw [d] at z;cases z⟩
theorem ItK.of {t:Bool}{h:Heap}{i l:Addr}(e:h.get? i=some { cls:=.type (VN t),data:=.fields #[.ref l,.int 0 0] }):ItK t h i l 0:=by
 cases t with
 | true=>exact ⟨_,e,rfl,rfl⟩
 | false=>exact ⟨_,e,rfl,rfl⟩
theorem kt {t:Bool}{i l:Addr}{xs:Array ag}(n:l≠i):Feeds prog w i l xs λk h=>ItK t h i l k/\IsK t h l xs:=by
 cases t with
 | true=>exact Xo n
 | false=>exact Qt n
theorem Qy {t:Bool}{l:Addr}{xs:Array ag}{Q:ag->Shared->Prop}(q:IsK t s.heap l xs) (z:Q (.ref s.heap.objs.size) { s with heap:=s.heap.push { cls:=.type (VN t),data:=.fields #[.ref l,.int 0 0] } }):ay (aC prog w) A (lV (.ref l)) Q E s:=by
 cases t with
 | true=>exact mG q z
 | false=>exact cM q z
abbrev zp1 (t:Bool) (h:Heap) (l:Addr):Heap:=h.push { cls:=.type (VN t),data:=.fields #[.ref l,.int 0 0] }
abbrev zp2 (t u:Bool) (h:Heap) (l m:Addr):Heap:=zp1 u (zp1 t h l) m
abbrev zp3 (t u:Bool) (h:Heap) (l m:Addr):Heap:=(zp2 t u h l m).push { cls:=.type "tuple",data:=.seq #[.ref h.objs.size,.ref (zp1 t h l).objs.size] }
abbrev zp4 (t u:Bool) (h:Heap) (l m:Addr):Heap:=(zp3 t u h l m).push { cls:=.type "tuple",data:=.seq #[.none,.none] }
abbrev zp5 (t u:Bool) (h:Heap) (l m:Addr):Heap:=(zp4 t u h l m).push { cls:=.type "zip",data:=.fields #[.none,.bool false,.bool false,.ref (zp2 t u h l m).objs.size,.ref (zp3 t u h l m).objs.size] }
theorem Xq (t u:Bool) (l m:Addr) (xs ys:Array ag) :
  Meets (dY.«zip.__new__» ⟨[.type "zip",.ref l,.ref m],[]⟩) (λ_ R s=>IsK t s.heap l xs/\IsK u s.heap m ys/\R (.ok (.ret (.ref (zp4 t u s.heap l m).objs.size))) { s with heap:=zp5 t u s.heap l m }) :=
 .of_wp λprog w A R s0 h=>by
  obtain ⟨hp,g,d,tk,os⟩:=s0;obtain ⟨q1,q2,h⟩:=h;have hsub:=sub_zip
  have p1:IsK t (Shared.heap ⟨hp,g,d,tk,os⟩) l xs:=q1
  have p2:IsK u (Shared.heap ⟨zp1 t hp l,g,d,tk,os⟩) m ys:=q2.at λo e=>ah _ e
  wp_walk using Qy p1,Qy p2
  exact ⟨_,rfl,h⟩
theorem Vs {t u:Bool}{l m:Addr}{xs ys:Array ag}{Q:ag->Shared->Prop}(q1:IsK t s.heap l xs) (q2:IsK u s.heap m ys)
  (R:∀g,iC g (s.heap.objs.size+4) (s.heap.objs.size+2) (s.heap.objs.size+3) .none->dr g (s.heap.objs.size+2) (.ref s.heap.objs.size) (.ref (s.heap.objs.size+1)) ->
   dr g (s.heap.objs.size+3) .none .none->ItK t g s.heap.objs.size l 0->ItK u g (s.heap.objs.size+1) m 0->(∀c o,s.heap.get? c=some o->g.get? c=some o)->Q (.ref (s.heap.objs.size+4)) { s with heap:=g }) :
  ay (aC prog w) A (call (.type "zip") [.ref l,.ref m]) Q E s:=by
 refine callType_new F.called_zip ⋯ (F.typeCall_zip_2 _ _) (F.newCall_zip_2 _ _) (λobj=>F.args_object_init_3 obj _ _) F.entry_zip_new (Xq t u l m xs ys) ⟨q1,q2,?_⟩
 have z1:(zp1 t s.heap l).objs.size=s.heap.objs.size+1:=bK ..
 have z2:(zp2 t u s.heap l m).objs.size=s.heap.objs.size+2:=by rw [bK,z1]
 have z3:(zp3 t u s.heap l m).objs.size=s.heap.objs.size+3:=by rw [bK,z2]
 have z4:(zp4 t u s.heap l m).objs.size=s.heap.objs.size+4:=by rw [bK,z3]
 have g5:(zp5 t u s.heap l m).get? (zp4 t u s.heap l m).objs.size=some _:=az _ rfl
 have g4:(zp5 t u s.heap l m).get? (zp3 t u s.heap l m).objs.size=some _:=ah _ (az _ rfl)
 have g3:(zp5 t u s.heap l m).get? (zp2 t u s.heap l m).objs.size=some _:=ah _ (ah _ (az _ rfl))
 have g2:(zp5 t u s.heap l m).get? (zp1 t s.heap l).objs.size=some _:=ah _ (ah _ (ah _ (az _ rfl)))
 have g1:(zp5 t u s.heap l m).get? s.heap.objs.size=some _:=ah _ (ah _ (ah _ (ah _ (az _ rfl))))
 show _/\_
 rw [z2,z3,z4] at g5;rw [z1,z2] at g3;rw [z3] at g4;rw [z1] at g2;rw [z4]
 exact ⟨⟨_,g5,rfl⟩,R _ g5 g3 g4 (.of g1) (.of g2) λc o x=>ah _ (ah _ (ah _ (ah _ (ah _ x))))⟩
end
section
variable {X:Cx}{s:Shared}{σ:St}{H:Hp}{pins:List (Addr×Obj)}
theorem XX {t:Bool}{a:Addr}{xs:List V}(I:Inv X pins σ H s) (h:SqK t X.K H a xs):∃its:List ag,jx xs its/\IsK t s.heap a its.toArray/\xs.length<=sizeLine:=by
 cases t with
 | true=>exact I.tuple h
 | false=>obtain ⟨its,r,p,z⟩:=I.list h;exact ⟨its,r,p.isList,z⟩
theorem gJ {t:Bool}{a:Addr}{xs ys:List V}(I:Inv X pins σ H s) (h:SqK t X.K H a xs) (h':SqK t X.K H a ys):xs=ys:=by
 cases t with
 | true=>exact I.tuple_inj h h'
 | false=>exact I.list_inj h h'
end
def ZD (K:aj) (t u:Bool) (l1 l2:Addr):It :=
 ⟨λi H=>∃xs ys x y,SqK t K H l1 xs/\SqK u K H l2 ys/\xs[i]? = some x/\ys[i]? = some y,λi H v H'=>∃p x y,v = .ref p/\H p=none/\H'=upd H p (.tup [x,y])/\(∀xs,SqK t K H l1 xs->xs[i]? = some x)/\∀ys,SqK u K H l2 ys->ys[i]? = some y,
  λi H=>∃xs ys,SqK t K H l1 xs/\SqK u K H l2 ys/\(xs.length<=i\/ys.length<=i)⟩
theorem XH {t u:Bool}{P:Program}{w:aV}{K:aj}{es:List Expr}{x1:Nat}{pos:Pos}{z TI TO i1 i2 l1 l2:Addr}(D:md z TI TO i1 i2 l1 l2) :
  Turn P w K (.Tuple es x1 pos) (ZD K t u l1 l2) [z,TI,TO,i1,i2] z (λi h=>∃a b,iC h z TI TO .none/\dr h TI (.ref i1) (.ref i2)/\dr h TO a b/\ItK t h i1 l1 i/\ItK u h i2 l2 i) where
 mem:=by simp
 obj:=λi h ⟨a,b,t1,t2,t3,t4,t5⟩ c hc=>by
  simp only [eS,eJ,or_false] at hc
  rcases hc with rfl | rfl | rfl | rfl | rfl
  ·exact ⟨_,t1,λv e=>by have e':fb _=iS v:=e;cases e'⟩
  ·exact ⟨_,t2,λv e=>by have e':rC _ _=iS v:=e;cases e'⟩
  ·exact ⟨_,t3,λv e=>by have e':rC _ _=iS v:=e;cases e'⟩
  ·exact t4.obj
  ·exact t5.obj
 keep:=λi h h' ⟨a,b,t1,t2,t3,t4,t5⟩ k=>⟨a,b,k z (by simp) _ t1,k TI (by simp) _ t2,k TO (by simp) _ t3,t4.at λo e=>k i1 (by simp) o e,t5.at λo e=>k i2 (by simp) o e⟩
 item:=by
  intro X hP hw hK hc i pins s σ H E I hf st hg
  subst hP hw hK
  obtain ⟨a,b,t1,t2,t3,t4,t5⟩:=st
  obtain ⟨xs,ys,x,y,hq1,hq2,hx,hy⟩:=hg
  obtain ⟨its1,rv1,p1,_⟩:=XX I hq1
  obtain ⟨its2,rv2,p2,_⟩:=XX I hq2
  obtain ⟨u1,hu1,ru1⟩:=rv1.get hx
  obtain ⟨u2,hu2,ru2⟩:=rv2.get hy
  have hn:H s.heap.objs.size=none:=I.hok.fresh (ao _)
  have fz:=hf z (by simp)
  have fTO:=hf TO (by simp)
  have f1:=hf i1 (by simp)
  have f2:=hf i2 (by simp)
  refine UK D (kt D.l1i1) (kt D.l2i2) t1 t2 t3 ⟨t4,p1⟩ ⟨t5,p2⟩ (x:=u1) (y:=u2) (by simpa using hu1) (by simpa using hu2) λh' o1 o2 o3 o4 o5 o6 o7=>⟨_,rfl,?_⟩
  obtain ⟨o3,_⟩:=o3;obtain ⟨o4,_⟩:=o4
  refine wpAny_letOwnedTupleGo_zip o1 λh2 q1 sb=>?_
  have hzl:z<s.heap.objs.size:=ar t1
  have kk:∀c o,c≠z->c≠TO->c≠i1->c≠i2->s.heap.get? c=some o->h2.get? c=some o:=λc o n1 n2 n3 n4 e=>(sb.2 c n1).trans (o7 c o n1 n2 n3 n4 e)
  have et:h2.get? s.heap.objs.size=some { cls:=.type "tuple",data:=.seq #[u1,u2] }:=(sb.2 _ (cq hzl)).trans o5
  have tne:∀c o,H c=some o->c≠z/\c≠TO/\c≠i1/\c≠i2/\c≠s.heap.objs.size:=λc o q=>⟨λe=>(by rw [e,fz.1] at q;cases q),λe=>(by rw [e,fTO.1] at q;cases q),λe=>(by rw [e,f1.1] at q;cases q),λe=>(by rw [e,f2.1] at q;cases q),λe=>(by rw [e,hn] at q;cases q)⟩
  have getF:∀{c:Addr} {o:HO},H c=some o->upd H s.heap.objs.size (.tup [x,y]) c=some o:=λ{c o} q=>by rw [j5 (tne c o q).2.2.2.2];exact q
  have nin:∀{c:Addr},c∉[z,TO,i1,i2]->c≠z/\c≠TO/\c≠i1/\c≠i2:=λ{c} h=>by simpa using h
  have I1:Inv X pins σ (upd H s.heap.objs.size (.tup [x,y])) { s with heap:=h2,toks:=s.toks }:=by
   refine I.step (g':=s.gens) (d':=s.drawn) (ch:=[z,TO,i1,i2]) (λc hc'=>?_) (λc o _ _ hc' e _=>kk c o (nin hc').1 (nin hc').2.1 (nin hc').2.2.1 (nin hc').2.2.2 e) (λc o _ _ hc' e _=>⟨o.slots,kk c o (nin hc').1 (nin hc').2.1 (nin hc').2.2.1 (nin hc').2.2.2 e⟩)
    (λc o _ e n=>by rw [j5 (aA (ar e))];exact n) (λc o hc' e=>⟨o,kk c o (nin hc').1 (nin hc').2.1 (nin hc').2.2.1 (nin hc').2.2.2 e⟩) (λ_ _ q=>getF q) (λ_ _ _ q=>getF q) (λc ps q=>⟨#[],by rw [getF q];simp⟩) (λm hm=>?_) (λc v q=>?_) I.bare
   ·simp only [eS,eJ,or_false] at hc'
    rcases hc' with rfl | rfl | rfl | rfl
    ·exact ⟨fz.2.2.2.1,fz.2.1,fz.2.2.2.2.1,fz.2.2.2.2.2⟩
    ·exact ⟨fTO.2.2.2.1,fTO.2.1,fTO.2.2.2.2.1,fTO.2.2.2.2.2⟩
    ·exact ⟨f1.2.2.2.1,f1.2.1,f1.2.2.2.2.1,f1.2.2.2.2.2⟩
    ·exact ⟨f2.2.2.2.1,f2.2.1,f2.2.2.2.2.1,f2.2.2.2.2.2⟩
   ·obtain ⟨o,es,ep,ho,r⟩:=hm
    exact ⟨o,es,ep,kk _ o (c5 fz.2.1) (c5 fTO.2.1) (c5 f1.2.1) (c5 f2.2.1) ho,r⟩
   ·by_cases hb:c=s.heap.objs.size
    ·subst hb
     rw [j4] at q;cases q
     exact ⟨by show 2<=sizeLine;decide,[u1,u2],.cons ru1 (.cons ru2 .nil),⟨_,et,rfl,0,rfl⟩⟩
    ·rw [j5 hb] at q
     have hh:=tne c v q
     refine (I.hok c v q).stay (λc' o hc' e=>?_) (λ_ e=>getF e) λ_ _ e=>getF e
     have hh':c'≠z/\c'≠TO/\c'≠i1/\c'≠i2:=by
      rcases hc' with e | e
      ·rw [e];exact ⟨hh.1,hh.2.1,hh.2.2.1,hh.2.2.2.1⟩
      ·have:=tne c' _ e;exact ⟨this.1,this.2.1,this.2.2.1,this.2.2.2.1⟩
     exact kk c' o hh'.1 hh'.2.1 hh'.2.2.1 hh'.2.2.2 e
  have s2:∀{c:Addr} {o:Obj},c≠z->h'.get? c=some o->h2.get? c=some o:=λn e=>(sb.2 _ n).trans e
  refine ⟨.ref s.heap.objs.size,_,I1,rfl,⟨_,x,y,rfl,hn,rfl,λys' hy'=>by rw [gJ I hy' hq1];exact hx,λys' hy'=>by rw [gJ I hy' hq2];exact hy⟩,⟨u1,u2,q1,kk _ _ D.TIz D.TITO D.TIi1 D.TIi2 t2,s2 D.TOz o2,o3.at λo e=>s2 D.i1z e,o4.at λo e=>s2 D.i2z e⟩,λc hc'=>?_⟩
  have hl:c<s.heap.objs.size:=by
   simp only [eS,eJ,or_false] at hc'
   rcases hc' with rfl | rfl | rfl | rfl | rfl
   ·exact hzl
   ·exact ar t2
   ·exact ar t3
   ·obtain ⟨o,e,_⟩:=t4.obj;exact ar e
   ·obtain ⟨o,e,_⟩:=t5.obj;exact ar e
  rw [j5 (aA hl)]
  exact (hf c hc').1
 done:=by
  intro X hP hw hK hc i pins s σ H E I hf st hg
  subst hP hw hK
  obtain ⟨a,b,t1,t2,t3,t4,t5⟩:=st
  obtain ⟨xs,ys,hq1,hq2,hend⟩:=hg
  obtain ⟨its1,rv1,p1,_⟩:=XX I hq1
  obtain ⟨its2,rv2,p2,_⟩:=XX I hq2
  have e1:=rv1.length
  have e2:=rv2.length
  have fz:=hf z (by simp)
  have fTO:=hf TO (by simp)
  have f1:=hf i1 (by simp)
  have f2:=hf i2 (by simp)
  have tne:∀c o,H c=some o->c≠z/\c≠TO/\c≠i1/\c≠i2:=λc o q=>⟨λe=>(by rw [e,fz.1] at q;cases q),λe=>(by rw [e,fTO.1] at q;cases q),λe=>(by rw [e,f1.1] at q;cases q),λe=>(by rw [e,f2.1] at q;cases q)⟩
  have nin:∀{c:Addr},c∉[z,TO,i1,i2]->c≠z/\c≠TO/\c≠i1/\c≠i2:=λ{c} h=>by simpa using h
  refine Ui (I.ok.hd hc) D (kt D.l1i1) (kt D.l2i2) t1 t2 t3 ⟨t4,p1⟩ ⟨t5,p2⟩ ?_ λh' kk=>⟨rfl,?_⟩
  ·rcases hend with h | h
   ·exact .inl (by simp;omega)
   ·exact .inr (by simp;omega)
  ·refine I.step (g':=s.gens) (d':=s.drawn) (t':=s.toks) (ch:=[z,TO,i1,i2]) (λc hc'=>?_) (λc o _ _ hc' e _=>kk c o (nin hc').1 (nin hc').2.1 (nin hc').2.2.1 (nin hc').2.2.2 e) (λc o _ _ hc' e _=>⟨o.slots,kk c o (nin hc').1 (nin hc').2.1 (nin hc').2.2.1 (nin hc').2.2.2 e⟩)
    (λ_ _ _ _ n=>n) (λc o hc' e=>⟨o,kk c o (nin hc').1 (nin hc').2.1 (nin hc').2.2.1 (nin hc').2.2.2 e⟩) (λ_ _ q=>q) (λ_ _ _ q=>q) (λc ps q=>⟨#[],by rw [q];simp⟩) (λm hm=>?_) (λc v q=>?_) I.bare
   ·simp only [eS,eJ,or_false] at hc'
    rcases hc' with rfl | rfl | rfl | rfl
    ·exact ⟨fz.2.2.2.1,fz.2.1,fz.2.2.2.2.1,fz.2.2.2.2.2⟩
    ·exact ⟨fTO.2.2.2.1,fTO.2.1,fTO.2.2.2.2.1,fTO.2.2.2.2.2⟩
    ·exact ⟨f1.2.2.2.1,f1.2.1,f1.2.2.2.2.1,f1.2.2.2.2.2⟩
    ·exact ⟨f2.2.2.2.1,f2.2.1,f2.2.2.2.2.1,f2.2.2.2.2.2⟩
   ·obtain ⟨o,es,ep,ho,r⟩:=hm
    exact ⟨o,es,ep,kk _ o (c5 fz.2.1) (c5 fTO.2.1) (c5 f1.2.1) (c5 f2.2.1) ho,r⟩
   ·have hh:=tne c v q
    refine (I.hok c v q).stay (λc' o hc' e=>?_) (λ_ e=>e) λ_ _ e=>e
    have hh':c'≠z/\c'≠TO/\c'≠i1/\c'≠i2:=by
     rcases hc' with e | e
     ·rw [e];exact hh
     ·exact tne c' _ e
    exact kk c' o hh'.1 hh'.2.1 hh'.2.2.1 hh'.2.2.2 e
 self:=λ_ _ _ _ _ ⟨_,_,t1,_⟩ h=>o9 t1 h
section
variable {X:Cx}
def UP (K:aj) (ta:TA):TI:=λσ H R=>ta σ H λvs H1=>∃t u a b,vs=[.ref a,.ref b]/\(∃xs,SqK t K H1 a xs)/\(∃ys,SqK u K H1 b ys)/\R (ZD K t u a b) H1
theorem Qw {es:List Expr}{x1:Nat}{tpos:Pos}{l r:Expr}{ta:TA}{p pos:Pos}(K:aj) (hg:Gl X "zip") (hm:X.mg "zip" = none) (ha:PA X [l,r] ta) (hs:aH [l,r] X.env=(false,eval l X.env)::aH [r] X.env:=by rfl) (hs2:(ck pos (aH [r] X.env)).any (·.1)=false:=by rfl) (hK:X.K=K:=by rfl) :
  PI X (.Tuple es x1 tpos) (.Call (.Name "zip" p) [l,r] [] pos) (UP K ta):=by
 subst hK
 intro pins s σ H R I h
 refine rJ (zI I hg hm boot_zip (bU (thn (ha pos pins s σ H _ I h) λus s1 ⟨vs,H1,I1,r1,q1⟩=>?_) hs hs2))
 obtain ⟨t,t2,a,b,e,⟨xs,hq⟩,⟨ys,hq2⟩,q⟩:=q1
 subst e
 obtain ⟨u,u2,rfl,ru,ru2⟩:=ZG r1
 cases ru
 cases ru2
 obtain ⟨its,rv,pl,_⟩:=XX I1 hq
 obtain ⟨its2,rv2,pl2,_⟩:=XX I1 hq2
 refine Vs pl pl2 λh' z1 z2 z3 z4 z5 kk=>?_
 refine o9 z1 ?_
 have I2:Inv X pins σ H1 { s1 with heap:=h',toks:=s1.toks }:=I1.kept kk
 have la:a<s1.heap.objs.size:=pl.lt
 have lb:b<s1.heap.objs.size:=pl2.lt
 have D:md (s1.heap.objs.size+4) (s1.heap.objs.size+2) (s1.heap.objs.size+3) s1.heap.objs.size (s1.heap.objs.size+1) a b:=by
  constructor <;> first | exact aA la | exact aA lb | exact aA (aK la (dA _ _)) | exact aA (aK lb (dA _ _)) | (apply aA;omega) | (apply cq;omega)
 refine ⟨_,[s1.heap.objs.size+4,s1.heap.objs.size+2,s1.heap.objs.size+3,s1.heap.objs.size,s1.heap.objs.size+1],_,_,H1,rfl,I2,XH D,⟨.none,.none,z1,z2,z3,z4,z5⟩,λc hc=>?_,q⟩
 have hle:s1.heap.objs.size<=c:=by
  simp only [eS,eJ,or_false] at hc
  rcases hc with rfl | rfl | rfl | rfl | rfl
  ·exact dA _ _
  ·exact dA _ _
  ·exact dA _ _
  ·exact ao _
  ·exact dA _ _
 exact I1.fpOk hle (I1.hok.fresh hle)
end
theorem wN {K:aj}{t0 u0:Bool}{a b acc:Addr}{xs ys:List V}{g:TG}{ti:TT}{te:TE}{R:Hp->Prop}{σ:St}{H:Hp}(hl2:xs.length=ys.length) (Pv:Nat->St->Hp->Prop) (h0:Pv 0 σ H) (hl:∀i σ H,i<=xs.length->Pv i σ H->SqK t0 K H a xs/\SqK u0 K H b ys)
  (hs:∀i x y σ H t,xs[i]? = some x->ys[i]? = some y->Pv i σ H->H t=none->g (.ref t) σ (upd H t (.tup [x,y])) λσ3 H3=>ti σ3 H3 λok H4=>if ok=true then te σ3 H4 λv H5=>∃zs,H5 acc=some (.lst zs)/\zs.length<sizeLine/\Pv (i+1) σ3 (upd H5 acc (.lst (zs++[v]))) else Pv (i+1) σ3 H4)
  (hd:∀σ H,Pv xs.length σ H->R H) :
  ∃W:Nat->Nat->St->Hp->Prop,(∃m,W 0 m σ H)/\∀i m σ' H',W i m σ' H' ->
   ((ZD K t0 u0 a b).stop i H'/\R H')\/((ZD K t0 u0 a b).go i H'/\∃NX:St->Hp->Prop,(∀σ2 H2,NX σ2 H2->∃m',m'<m/\W (i+1) m' σ2 H2) /\
    ∀x H2,(ZD K t0 u0 a b).yld i H' x H2->g x σ' H2 λσ3 H3=>ti σ3 H3 λok H4=>if ok=true then te σ3 H4 λv H5=>∃zs,H5 acc=some (.lst zs)/\zs.length<sizeLine/\NX σ3 (upd H5 acc (.lst (zs++[v]))) else NX σ3 H4):=by
 refine ⟨λi m σ H=>m=xs.length-i/\i<=xs.length/\Pv i σ H,⟨xs.length,by simp,aJ _,h0⟩,?_⟩
 rintro i m σ H ⟨rfl,hi,p⟩
 obtain ⟨q,q2⟩:=hl i σ H hi p
 by_cases hlt:i<xs.length
 ·refine .inr ⟨⟨xs,ys,xs[i],ys[i]'∅,q,q2,by simp [hlt],aa ∅⟩,Pv (i+1),λσ' H' p'=>⟨xs.length-(i+1),∅,rfl,hlt,p'⟩,λv H' y=>?_⟩
  obtain ⟨t,x,y',rfl,hn,rfl,y1,y2⟩:=y
  exact hs i x y' σ H t (y1 xs q) (y2 ys q2) p hn
 ·have e:i=xs.length:=∅
  subst e
  exact .inl ⟨⟨xs,ys,q,q2,.inl (ao _)⟩,hd σ H p⟩
end L2
end
section
namespace L2
open PySem.W
end L2
end
section
namespace L2
open PySem.W
def Two (vs:Array ag) (a0:ag):Prop:=vs[0]? = some a0/\vs[2]? = some .none
theorem Two.put {vs:Array ag}{a0:ag}(t:Two vs a0) (x:ag):Two (vs.setIfInBounds 1 x) a0 :=
 ⟨by rw [fK ⋯];exact t.1,by rw [fK ⋯];exact t.2⟩
theorem ZO (o:Obj) (f:Array ag->Array ag):(o.mapFields f).dict=o.dict:=by
 obtain ⟨c,d,dt,sl⟩:=o
 cases dt <;> rfl
def OnT (h B:Heap) (e:Addr) (cls a0 fl:ag):Prop :=
 ∃oe vs T oT ts,h.get? e=some oe/\(oe.cls=cls/\Two vs a0/\oe.dict=none)/\oe.data = .fields vs/\vs[1]? = some (.ref T)/\B.get? T=none/\T≠e/\h.get? T=some oT/\oT.data = .fields ts/\ts[3]? = some fl
section
variable {M:rH}{A:ba}{E:ag->Shared->Prop}{s:Shared}{B:Heap}{env:Env}{outer l:List Env}{L e:Addr}{cls a0 fl:ag}{Q:Unit->Shared->Prop}
theorem w9 (st:B.StaysIn s.heap) (fu:s.heap.FunFrames B l) (on:OnT s.heap B e cls a0 fl)
  (k:∀g,B.StaysIn g->g.FunFrames B l->OnT g B e cls a0 .none->(∀b o,s.heap.get? b=some o->(∀vs,o.data≠.fields vs)->g.get? b=some o)->Q () { s with heap:=g }):ay M A (setFlight (.ref e) none) Q E s:=by
 obtain ⟨oe,vs,T,oT,ts,ge,gc,gd,g1,gB,gn,gT,gD,g3⟩:=on
 have z3:3<ts.size:=(Array.getElem?_eq_some_iff.mp g3).1
 have ot:∀b,b≠T->(s.heap.update T (fR (·.setIfInBounds 3 ((none:Option Addr).elim aT λf=>bS f)))).get? b=s.heap.get? b:=λb hb =>
  bq _ _ hb.symm
 have nr:∀{b o},s.heap.get? b=some o->(∀vs,o.data≠.fields vs)->b≠T:=λhb hn q=>by
  rw [q,gT] at hb
  cases hb
  exact hn ts gD
 unfold setFlight
 refine ae (bE ge gd g1 ?_)
 rw [if_pos (by simp)]
 refine fG gT gD z3 (k _ (λb o hb=>?_) (fu.of_keeps λb o hb hn=>⟨o,?_,rfl⟩) ?_ λb o hb hn=>?_)
 ·rw [ot b λq=>by rw [q,gB] at hb;cases hb]
  exact st b o hb
 ·rw [ot b (nr hb hn)]
  exact hb
 ·refine ⟨oe,vs,T,_,_,?_,gc,gd,g1,gB,gn,cE _ gT (dX (dN gD _)),dN gD _,by simp [z3]⟩
  rw [ot e gn.symm]
  exact ge
 ·rw [ot b (nr hb hn)]
  exact hb
theorem Jj {oe:Obj}{vs:Array ag}{head:ag}{nx:Bool}(fr:A.frames=some (env::outer)) (fu:s.heap.FunFrames B (env::outer)) (hL:env.frame=some L) (ge:s.heap.get? e=some oe) (st:B.StaysIn s.heap) (ne:B.get? e=none) (gd:oe.data = .fields vs)
  (z1:1<vs.size) (tw:Two vs a0) (dn:oe.dict=none) (k:∀g,B.StaysIn g->g.FunFrames B (env::outer)->OnT g B e oe.cls a0 (bS L)->s.heap.UpToSlots g->Q () { s with heap:=g }) :
  ay M A (do let a <- frameOf env;let pl <- entryPlaceOf L nx;let b <- mq head a .none (bS L) .none pl;setField (.ref e) 1 b) Q E s:=by
 have out:e∉(env::outer).filterMap (·.frame):=λq=>by
  obtain ⟨_,o,ho,hn⟩:=fu.mem q
  rw [ge] at ho
  cases ho
  exact hn vs gd
 refine ae (wpAny_frameOf_fun fr fu hL λg1 so=>?_)
 refine ae (wpAny_entryPlaceOf λpl sh=>?_)
 unfold mq newFields
 refine ae (bV ?_ (sh.sizeOk5 _ _ _ _ _))
 have e1:g1.get? e=some oe:=(so.2.1 e out).trans ge
 have s1:B.StaysIn g1:=λb o hb=>(so.2.1 b λq=>by rw [(fu.mem q).1] at hb;cases hb).trans (st b o hb)
 generalize hnew:({ cls:=.type "traceback",dict:=none,data:=.fields ([head,.ref L,.none,bS L,.none]++(if pl.isEmpty then cZ 6 aT else pl)).toArray }:Obj)=new
 have nd:new.data = .fields ([head,.ref L,.none,bS L,.none]++(if pl.isEmpty then cZ 6 aT else pl)).toArray:=by rw [<- hnew]
 have e2:=ah (h:=g1) new e1
 refine fG e2 gd z1 ?_
 have Te:g1.objs.size≠e:=cq (ar e1)
 have d3:=dN gd (·.setIfInBounds 1 (b0 g1.objs.size))
 have e3:=cE (fR (·.setIfInBounds 1 (b0 g1.objs.size))) e2 (dX d3)
 have T3:((g1.push new).update e (fR (·.setIfInBounds 1 (b0 g1.objs.size)))).get? g1.objs.size=some new:=by
  rw [bq _ _ Te.symm]
  exact az g1 (dX nd)
 have kp:∀{b o},b≠e->g1.get? b=some o->((g1.push new).update e (fR (·.setIfInBounds 1 (b0 g1.objs.size)))).get? b=some o:=λhb q=>by
  rw [bq _ _ hb.symm]
  exact ah _ q
 have nr:∀{b o},s.heap.get? b=some o->(∀vs,o.data≠.fields vs)->b≠e:=λhb hn q=>by
  rw [q,ge] at hb
  cases hb
  exact hn vs gd
 refine k _ (λb o hb=>kp (λq=>by rw [q,ne] at hb;cases hb) (s1 b o hb)) (fu.of_keeps λb o hb hn=>?_) ?_ λb o hb hn=>?_
 ·obtain ⟨sl,hs⟩:=so.2.2 b o hb
  exact ⟨_,kp (nr hb hn) hs,rfl⟩
 ·exact ⟨_,_,g1.objs.size,_,_,e3,⟨nA _ _,tw.put _,(ZO _ _).trans dn⟩,d3,by simp [z1],s1.fresh,Te,T3,nd,by first | (simp;done) | (rcases sh with rfl | ⟨_,_,_,_,_,_,_,rfl⟩ <;> simp)⟩
 ·obtain ⟨sl,hs⟩:=so.2.2 b o hb
  exact ⟨sl,kp (nr hb hn) hs⟩
theorem YC (fr:A.frames=some (env::outer)) (fu:s.heap.FunFrames B (env::outer)) (hL:env.frame=some L) (on:OnT s.heap B e cls a0 .none) (st:B.StaysIn s.heap) (ne:B.get? e=none)
  (k:∀g,B.StaysIn g->g.FunFrames B (env::outer)->OnT g B e cls a0 (bS L)->s.heap.UpToSlots g->Q () { s with heap:=g }):ay M A (ik (.ref e) env) Q E s:=by
 obtain ⟨oe,vs,T,oT,ts,ge,⟨rfl,tw,dn⟩,gd,g1,gB,gn,gT,gD,g3⟩:=on
 unfold ik
 simp only [hL]
 refine ae (bE ge gd g1 ?_)
 rw [if_pos (by simp)]
 refine ae (bE gT gD g3 ?_)
 rw [if_neg (by simp [bS])]
 refine ae (fG gT gD (Array.getElem?_eq_some_iff.mp g3).1 ?_)
 have ot:∀b,b≠T->(s.heap.update T (fR (·.setIfInBounds 3 aT))).get? b=s.heap.get? b:=λb hb =>
  bq _ _ hb.symm
 have nr:∀{b o},s.heap.get? b=some o->(∀vs,o.data≠.fields vs)->b≠T:=λhb hn q=>by
  rw [q,gT] at hb
  cases hb
  exact hn ts gD
 refine Jj (oe:=oe) (vs:=vs) (a0:=a0) fr (fu.of_keeps λb o hb hn=>⟨o,?_,rfl⟩) hL ?_ (λb o hb=>?_) ne gd (Array.getElem?_eq_some_iff.mp g1).1 tw dn λg k1 k2 k3 k4=>k g k1 k2 k3 λb o hb hn=>?_
 ·exact (ot b (nr hb hn)).trans hb
 ·exact (ot e gn.symm).trans ge
 ·exact (ot b λq=>by rw [q,gB] at hb;cases hb).trans (st b o hb)
 ·exact k4 b o ((ot b (nr hb hn)).trans hb) hn
theorem Y0 (fr:A.frames=some (env::outer)) (fu:s.heap.FunFrames B (env::outer)) (hL:env.frame=some L) (on:OnT s.heap B e cls a0 .none) (st:B.StaysIn s.heap) (ne:B.get? e=none)
  (k:∀g,B.StaysIn g->g.FunFrames B (env::outer)->OnT g B e cls a0 .none->s.heap.UpToSlots g->Q () { s with heap:=g }):ay M A (mh env (.ref e)) Q E s:=by
 unfold mh
 refine ae (YC fr fu hL on st ne λg k1 k2 k3 k4=>?_)
 exact w9 (s:={ s with heap:=g }) k1 k2 k3 λg' m1 m2 m3 m4=>k g' m1 m2 m3 (k4.trans λb o hb hn=>⟨o.slots,m4 b o hb hn⟩)
theorem Qp {h:Heap}{args:List ag}(fr:A.frames=some (env::outer)) (hL:env.frame=some L) (st:B.StaysIn h) (fu:h.FunFrames B (env::outer)) (hx:me h s.heap e cls args)
  (k:∀g t,B.StaysIn g->g.FunFrames B (env::outer)->OnT g B e cls (.ref t) .none->B.get? e=none->s.heap.UpToSlots g->Q () { s with heap:=g }):ay M A (mh env (.ref e)) Q E s:=by
 obtain ⟨t,ge,tn,gt⟩:=hx.there
 have new:B.get? e=none:=by
  cases q:B.get? e with
  | none=>rfl
  | some o =>
   have:=st e o q
   rw [hx.new] at this
   cases this
 unfold mh ik
 simp only [hL]
 refine ae (ae (bE (x:=.none) ge rfl rfl ?_))
 rw [if_neg ⋯]
 refine Jj (a0:=.ref t) fr (fu.of_keeps λb o hb _=>⟨o,hx.keeps b o hb,rfl⟩) hL ge (λb o hb=>hx.keeps b o (st b o hb)) new rfl (by simp) ⟨rfl,rfl⟩ rfl λg k1 k2 k3 k4=>?_
 exact w9 (s:={ s with heap:=g }) k1 k2 k3 λg' m1 m2 m3 m4=>k g' t m1 m2 m3 new (k4.trans λb o hb hn=>⟨o.slots,m4 b o hb hn⟩)
end
end L2
end
section
namespace L2
open PySem.W
structure Fly (g:Heap) (H:Hp) (h:Heap) (a:Addr) (cls fl:ag):Prop where
 na:g.get? a=none
 ha:H a=none
 ob:∃oe vs T oT ts a0,h.get? a=some oe/\(oe.cls=cls/\Two vs a0/\oe.dict=none)/\oe.data = .fields vs/\vs[1]? = some (.ref T)/\g.get? T=none/\H T=none/\T≠a/\h.get? T=some oT/\oT.data = .fields ts/\ts[3]? = some fl
theorem Fly.mono {g g':Heap}{H:Hp}{h:Heap}{a:Addr}{cls fl:ag}(f:Fly g H h a cls fl) (l:∀b o,g'.get? b=some o->∃o',g.get? b=some o'):Fly g' H h a cls fl:=by
 have no:∀{b},g.get? b=none->g'.get? b=none:=λ{b} e=>by
  cases q:g'.get? b with
  | none=>rfl
  | some o =>
   obtain ⟨o',e'⟩:=l b o q
   rw [e] at e'
   cases e'
 obtain ⟨oe,vs,T,oT,ts,a0,h1,h2,h3,h4,h5,h6⟩:=f.ob
 exact ⟨no f.na,f.ha,oe,vs,T,oT,ts,a0,h1,h2,h3,h4,no h5,h6⟩
def CX1 (P:Program) (w:aV):CXT:=λouter H s E e s' =>
 ∃a cls H',e = .ref a/\s'.os=s.os/\fO s'.gens/\Un (frs outer) [] H H' s.heap s'.heap/\HOk P w H' s'.heap/\Fly s.heap H' s'.heap a cls .none/\E cls none H'
def zu (X:Cx) (pins:List (Addr×Obj)) (σ:St) (H':Hp) (s1:Shared) (a:Addr) (cls fl:ag):Prop :=
 ∃s H,Inv X pins σ H s/\s1.os=s.os/\fO s1.gens/\Un (frs X.stack) [] H H' s.heap s1.heap/\HOk X.prog X.w H' s1.heap/\Fly s.heap H' s1.heap a cls fl
theorem uR {P:Program}{w:aV}{H:Hp}{h:Heap}{a:Addr}{o:HO}(x:qk P w H h a o):∃ob,h.get? a=some ob:=by
 cases o with
 | lst xs=>obtain ⟨_,_,_,_,e⟩:=x;exact ⟨_,e⟩
 | tup xs=>obtain ⟨_,_,_,ob,e,_⟩:=x;exact ⟨_,e⟩
 | dK kvs=>obtain ⟨_,_,_,_,ob,_,_,e,_⟩:=x;exact ⟨_,e⟩
 | dT kvs=>obtain ⟨_,_,_,_,ob,_,_,e,_⟩:=x;exact ⟨_,e⟩
 | set S n=>obtain ⟨ob,_,_,_,e,_⟩:=x;exact ⟨_,e⟩
 | ins C dx fs=>obtain ⟨_,_,_,e,_⟩:=x;exact ⟨_,e⟩
 | own y=>exact x
 | xd fs=>obtain ⟨_,⟨_,_,_,e,_⟩,_⟩:=x;exact ⟨_,e⟩
 | rng lo hi=>obtain ⟨_,_,_,e⟩:=x;exact ⟨_,e⟩
 | frz ob u=>obtain ⟨e,_⟩:=x;exact ⟨_,e⟩
 | tbl ps=>exact ⟨_,(show h.get? a=some _ from x)⟩
 | met f y=>exact ⟨_,(show h.get? a=some _ from x)⟩
 | ext φ=>obtain ⟨_,e,_⟩:=x;exact e
section
variable {X:Cx}{pins:List (Addr×Obj)}{σ:St}{H H':Hp}{s s1:Shared}{a:Addr}{cls fl:ag}
theorem zu.inv (f:zu X pins σ H' s1 a cls fl):Inv X pins σ H' s1:=by
 obtain ⟨s,H,I,os,b,u,ok,fy⟩:=f
 exact I.call' os u ok b (λb z=>absurd z (by simp))
theorem zu.fly (hex:X.ex=[]) (f:zu X pins σ H' s1 a cls fl):Fly X.s₀.heap H' s1.heap a cls fl:=by
 obtain ⟨s,H,I,os,b,u,ok,fy⟩:=f
 exact fy.mono λc o e=>I.base.there c o e (by rw [hex];exact λz=>by cases z)
theorem zu.under (f:zu X pins σ H' s1 a cls .none):∃B a0,(B.StaysIn s1.heap/\B.get? a=none/\s1.heap.FunFrames B X.stack/\OnT s1.heap B a cls a0 .none) /\
  ∀h2 fl2,B.StaysIn h2->s1.heap.UpToSlots h2->OnT h2 B a cls a0 fl2->zu X pins σ H' { s1 with heap:=h2 } a cls fl2:=by
 have I1:=f.inv
 obtain ⟨s,H,I,os,b,u,ok,fy⟩:=f
 obtain ⟨oe,vs,T,oT,ts,a0,h1,h2,h3,h4,h5,h6,h7,h8,h9,h10⟩:=fy.ob
 have fr:=I1.stack
 have fs:∀b∈frs X.stack,b≠a/\b≠T:=λb hb=>by
  obtain ⟨_,o,ho,hn⟩:=fr.mem hb
  refine ⟨λz=>?_,λz=>?_⟩
  ·rw [z,h1] at ho;cases ho;exact hn _ h3
  ·rw [z,h8] at ho;cases ho;exact hn _ h9
 have in_:∀env∈X.stack,∀c,env.frame=some c->c∈a::T::frs X.stack:=λenv he c hc=>aD _ (aD _ (List.mem_filterMap.mpr ⟨env,he,hc⟩))
 have noB:∀{c o},s1.heap.get? c=some o->c≠a->c≠T->c∉frs X.stack->(hideAll s1.heap (a::T::frs X.stack)).get? c=some o:=λe n1 n2 n3 =>
  hideAll_get _ e (by simp only [eS,not_or];exact ⟨n1,n2,n3⟩)
 refine ⟨hideAll s1.heap (a::T::frs X.stack),a0,⟨λb o q=>of_hideAll _ q,hideAll_none _ (.head _),pE fr in_,oe,vs,T,oT,ts,h1,h2,h3,h4,hideAll_none _ (.tail _ (.head _)),h7,h8,h9,h10⟩,λhp fl2 st up tr=>?_⟩
 have lo:∀{c o},s.heap.get? c=some o->c≠a/\c≠T:=λ{c o} e=>⟨λz=>(by rw [z,fy.na] at e;cases e),λz=>(by rw [z,h5] at e;cases e)⟩
 have frn:∀{c o},s1.heap.get? c=some o->c∈frs X.stack->∀vs,o.data≠.fields vs:=λe hc=>by
  obtain ⟨_,o',ho,hn⟩:=fr.mem hc
  rw [e] at ho;cases ho;exact hn
 refine ⟨s,H,I,os,b,⟨λc o e n nf nx=>?_,λc o e n hf nx=>?_,λc o e n nx=>u.free c o e n nx,λc o e nx=>?_,u.tups,u.frzs,u.tbls⟩,λc o hc=>?_,?_⟩
 ·exact st _ _ (noB (u.keep c o e n nf nx) (lo e).1 (lo e).2 nf)
 ·obtain ⟨sl,e1⟩:=u.slot c o e n hf nx
  obtain ⟨sl2,e2⟩:=up c _ e1 (frn e1 hf)
  exact ⟨sl2,e2⟩
 ·obtain ⟨o1,e1⟩:=u.there c o e nx
  by_cases hf:c∈frs X.stack
  ·obtain ⟨sl2,e2⟩:=up c _ e1 (frn e1 hf)
   exact ⟨_,e2⟩
  ·exact ⟨o1,st _ _ (noB e1 (lo e).1 (lo e).2 hf)⟩
 ·refine (ok c o hc).stay (λc' o' hc' e=>?_) (λ_ e=>e) λ_ _ e=>e
  have hne:H' c'≠none:=by
   rcases hc' with z | z
   ·rw [z,hc];exact λy=>by cases y
   ·rw [z];exact λy=>by cases y
  exact st _ _ (noB e (λz=>hne (by rw [z];exact fy.ha)) (λz=>hne (by rw [z];exact h6)) λz=>hne (I1.stkFree _ z))
 ·obtain ⟨oe2,vs2,T2,oT2,ts2,g1,g2,g3,g4,g5,g6,g7,g8,g9⟩:=tr
  have key:T2=T\/s1.heap.get? T2=none:=by
   cases q:s1.heap.get? T2 with
   | none=>exact .inr rfl
   | some o =>
    refine .inl ?_
    by_cases hT:T2=T
    ·exact hT
    ·by_cases hf:T2∈frs X.stack
     ·obtain ⟨sl2,e2⟩:=up T2 _ q (frn q hf)
      rw [e2] at g7
      cases g7
      exact absurd g8 (frn q hf _)
     ·have:=noB q g6 hT hf
      rw [g5] at this
      cases this
  refine ⟨fy.na,fy.ha,oe2,vs2,T2,oT2,ts2,a0,g1,g2,g3,g4,?_,?_,g6,g7,g8,g9⟩
  ·rcases key with z | z
   ·rw [z];exact h5
   ·cases q:s.heap.get? T2 with
    | none=>rfl
    | some o =>
     obtain ⟨o',e'⟩:=u.there T2 o q (by simp)
     rw [z] at e'
     cases e'
  ·rcases key with z | z
   ·rw [z];exact h6
   ·cases q:H' T2 with
    | none=>rfl
    | some o =>
     obtain ⟨o',e'⟩:=uR (ok T2 o q)
     rw [z] at e'
     cases e'
theorem zu.leave {Q:Unit->Shared->Prop}{E:ag->Shared->Prop}(f:zu X pins σ H' s1 a cls .none) (st:X.stack=X.env::X.outer) (hf:X.env.frame=some X.env.locals)
  (k:∀h2,zu X pins σ H' { s1 with heap:=h2 } a cls .none->Q () { s1 with heap:=h2 }):ay (aC X.prog X.w) X.A (mh X.env (.ref a)) Q E s1:=by
 obtain ⟨B,a0,fw,up⟩:=f.under
 have fr:X.A.frames=some (X.env::X.outer):=by rw [<- st];exact f.inv.ok.frames
 rw [st] at fw
 obtain ⟨f1,f2,f3,f4⟩:=fw
 exact Y0 fr f3 hf f4 f1 f2 λh2 k1 k2 k3 k4=>k h2 (up h2 .none k1 k4 k3)
theorem JZ {vs:List ag}{h1:Heap}{Q:Unit->Shared->Prop}{E:ag->Shared->Prop}(I:Inv X pins σ H s) (hx:me s.heap h1 a cls vs) (st:X.stack=X.env::X.outer) (hf:X.env.frame=some X.env.locals)
  (k:∀h2,zu X pins σ H { s with heap:=h2 } a cls .none->Q () { s with heap:=h2 }):ay (aC X.prog X.w) X.A (mh X.env (.ref a)) Q E { s with heap:=h1 }:=by
 have fr:X.A.frames=some (X.env::X.outer):=by rw [<- st];exact I.ok.frames
 have fun0:=I.stack
 have in_:∀env∈X.stack,∀c,env.frame=some c->c∈frs X.stack:=λenv he c hc=>List.mem_filterMap.mpr ⟨env,he,hc⟩
 have fun1:=pE fun0 in_
 have frn:∀{c o},s.heap.get? c=some o->c∈frs X.stack->∀vs,o.data≠.fields vs:=λe hc=>by
  obtain ⟨_,o',ho,hn⟩:=fun0.mem hc
  rw [e] at ho;cases ho;exact hn
 rw [st] at fun1
 refine Qp (s:={ s with heap:=h1 }) (B:=hideAll s.heap (frs (X.env::X.outer))) (h:=s.heap) fr hf (λb o q=>of_hideAll _ q) fun1 hx λh2 t b1 b2 fw b3 up=>?_
 rw [<- st] at fw b1
 obtain ⟨oe,ws,T,oT,ts,g1,g2,g3,g4,g5,g6,g7,g8,g9⟩:=fw
 have keepB:∀{c o},s.heap.get? c=some o->c∉frs X.stack->h2.get? c=some o:=λe n=>b1 _ _ (hideAll_get _ e n)
 have slotB:∀{c o},s.heap.get? c=some o->c∈frs X.stack->∃sl,h2.get? c=some { o with slots:=sl }:=λ{c o} e hc=>up c o (hx.keeps _ _ e) (frn e hc)
 have nT:s.heap.get? T=none:=by
  cases q:s.heap.get? T with
  | none=>rfl
  | some o =>
   exfalso
   by_cases hc:T∈frs X.stack
   ·obtain ⟨sl,e⟩:=slotB q hc
    rw [e] at g7
    cases g7
    exact frn q hc _ g8
   ·rw [hideAll_get _ q hc] at g5
    cases g5
 have hn:∀{c},s.heap.get? c=none->H c=none:=λ{c} e=>by
  cases q:H c with
  | none=>rfl
  | some o =>
   obtain ⟨o',e'⟩:=uR (I.hok c o q)
   rw [e] at e'
   cases e'
 refine k h2 ⟨s,H,I,rfl,I.bare,⟨λc o e n nf nx=>keepB e nf,λc o e n hf nx=>slotB e hf,λc o e n nx=>n,λc o e nx=>?_,λ_ _ e=>e,λ_ _ _ e=>e,λc ps e=>⟨#[],by rw [e];simp⟩⟩,λc o hc=>?_,hx.new,hn hx.new,oe,ws,T,oT,ts,.ref t,g1,g2,g3,g4,nT,hn nT,g6,g7,g8,g9⟩
 ·by_cases hc:c∈frs X.stack
  ·obtain ⟨sl,e2⟩:=slotB e hc
   exact ⟨_,e2⟩
  ·exact ⟨o,keepB e hc⟩
 ·refine (I.hok c o hc).stay (λc' o' hc' e=>?_) (λ_ e=>e) λ_ _ e=>e
  refine keepB e λz=>?_
  have:=I.stkFree _ z
  rcases hc' with y | y
  ·rw [y,hc] at this;cases this
  ·rw [y] at this;cases this
end
def Acc (X:Cx) (J:ag->St->Hp->Prop):Prop:=∀(pins:List (Addr×Obj)) (σ:St) (H':Hp) (s1:Shared) (a:Addr) (cls:ag),zu X pins σ H' s1 a cls .none->J cls σ H'->X.xe (.ref a) s1
def Vm (sp:Sp) (J:ag->St->Hp->Prop) (t:TA):TE:=λσ H Q=>t σ H λvs H1=>sp vs H1 Q λcls _ H'=>J cls σ H'
structure CalX (P:Program) (w:aV) (K:aj) (mg:Str->Option ag) (base:Heap) (k:Nat) (x:Str) (ps:List Str) (sp:Sp):Prop where
 ex:∃f fd,FnOk P w K mg base (CX1 P w) k f fd ps sp/\zP K fd ps []/\mg x=some (.ref f)/\bJ K (.ref f)=true
theorem zJ {X:Cx}{k:Nat}{x:Str}{ps:List Str}{sp:Sp}{e:Expr}{es:List Expr}{t:TA}{p pos:Pos}{J:ag->St->Hp->Prop}(c:CalX X.prog X.w X.K X.mg X.base k x ps sp) (hr:Room k X.A) (ac:Acc X J) (hg:Gl X x) (ha:PA X (e::es) t)
  (hdb:(x == ("__debug__" : Str))=false:=by decide) (he:aH (e::es) X.env=(false,eval e X.env)::aH es X.env:=by rfl) (hpl:(ck pos (aH es X.env)).any (·.1)=false:=by rfl) :
  PE X (.Call (.Name x p) (e::es) [] pos) (Vm sp J t):=by
 obtain ⟨f,fd,F,hb,hm,hk⟩:=c.ex
 intro pins s σ H Q I h
 refine cF (yQ I hg hm ?_ hdb)
 refine dM (h₀:=X.base) I.ok.mod.kin hk (thn (ha pos pins s σ H _ I h) λus s1 ⟨vs,H1,I1,r,q⟩=>⟨I1.kIn,?_⟩) he hpl
 have hl:us.length=ps.length:=by rw [<- r.length];exact F.len _ _ _ _ q
 have hb':=hb s1 us I1.kIn (by rw [bo];exact hl)
 rw [bo] at hb'
 refine lp (dj (F.run X.A X.stack s1 H1 ⟨us,[]⟩ us vs Q _ hr I1.env0 hb' r q) λr s' hq=>?_)
 cases r with
 | error e =>
  obtain ⟨a,cls,H',rfl,os,b,u,ok,fy,j⟩:=hq
  exact ac pins σ H' s' a cls ⟨s1,H1,I1,os,b,u,ok,fy⟩ j
 | ok fl =>
  cases fl with
  | ret u=>exact I1.after hq
  | next=>exact bu hq
  | brk=>exact bu hq
  | cont=>exact bu hq
theorem CalX.cal {P:Program}{w:aV}{K:aj}{mg:Str->Option ag}{base:Heap}{k:Nat}{x:Str}{ps:List Str}{sp:Sp}(c:CalX P w K mg base k x ps sp):Cal P w K mg base k x ps (λvs H Q _=>sp vs H Q E0):=by
 obtain ⟨f,fd,F,hb,hm,hk⟩:=c.ex
 refine ⟨f,fd,⟨λvs H Q E h=>F.len vs H Q E0 h,λA outer s H args us vs Q E hr he hb hv hs=>dj (F.run A outer s H args us vs Q E0 hr he hb hv hs) λr s' q=>?_⟩,hb,hm,hk⟩
 cases r with
 | error e =>
  obtain ⟨a,cls,H',_,_,_,_,_,_,j⟩:=q
  exact bu j
 | ok fl =>
  cases fl with
  | ret u=>exact q
  | next=>exact q
  | brk=>exact q
  | cont=>exact q
theorem qO {P:Program}{w:aV}{K:aj}{mg:Str->Option ag}{base:Heap}{N:List Str}{qual:Str}{scope:Scope}{f:Addr}{cd:ag}{A:ba}{outer:List Env}{s:Shared}{H:Hp}{E:XK} :
  Acc (yI (CX1 P w) P w K mg base N qual scope f cd A outer s H E) λcls _ H'=>E cls none H':=by
 intro pins σ H' s1 a cls fl j
 refine zu.leave (X:=yI (CX1 P w) P w K mg base N qual scope f cd A outer s H E) fl rfl rfl λh2 f2=>?_
 exact ⟨a,cls,H',rfl,f2.inv.os,f2.inv.bare,f2.inv.base,f2.inv.hok,f2.fly rfl,j⟩
def UE (X:Cx) (J:ag->St->Hp->Prop):Prop:=∀(pins:List (Addr×Obj)) (σ:St) (H:Hp) (s:Shared) (h1:Heap) (a:Addr) (cls:ag) (vs:List ag),Inv X pins σ H s->me s.heap h1 a cls vs->J cls σ H->X.xe (.ref a) { s with heap:=h1 }
theorem xJ {P:Program}{w:aV}{K:aj}{mg:Str->Option ag}{base:Heap}{N:List Str}{qual:Str}{scope:Scope}{f:Addr}{cd:ag}{A:ba}{outer:List Env}{s:Shared}{H:Hp}{E:XK} :
  UE (yI (CX1 P w) P w K mg base N qual scope f cd A outer s H E) λcls _ H'=>E cls none H':=by
 intro pins σ H' s1 h1 a cls vs I hx j
 refine JZ (X:=yI (CX1 P w) P w K mg base N qual scope f cd A outer s H E) I hx rfl rfl λh2 f2=>?_
 exact ⟨a,cls,H',rfl,f2.inv.os,f2.inv.bare,f2.inv.base,f2.inv.hok,f2.fly rfl,j⟩
theorem U1 {K:aj}{h:Heap}{C:Addr}{bmB:List ag}{newId:String}(X:K.In h) (q:excIn K C bmB newId=true) :
  ∃bm N nm q bs hdct sn sub ab col dd k0 k1 k2 k3 k5 mN,h.get? C=some (excClassObj nm q C N bs bm hdct sn sub ab col dd k0 k1 k2 k3 k5 newId)/\h.Ns N mN/\mN "__init__" = none/\OwnTail h bmB bm:=by
 unfold excIn at q
 split at q
 ·rename_i dd cd sl ho
  split at q
  ·rename_i C' bm k0 k1 k2 k3 n k5 em es
   simp only [bh,beq_iff_eq,Bool.not_eq_true'] at q
   obtain ⟨⟨⟨⟨⟨rfl,rfl⟩,e1⟩,e2⟩,e3⟩,e4⟩:=q
   obtain ⟨nm,bs,mro,ns,qn,hd,sn,sub,ab,col,del⟩:=cd
   dsimp only at em e1 e3 e4
   subst em e1
   have e5:sl = #[k0,k1,k2,k3,some (.builtin n),k5]:=by obtain ⟨l⟩:=sl;simp only at es;rw [es]
   subst e5
   exact ⟨bm,ns,nm,qn,bs,hd,sn,sub,ab,col,dd,k0,k1,k2,k3,k5,_,X _ _ ho,.of_isNs (isNs_of_in X e3),nsMap_none_of_in X e3 e4,tail_of_in X e2⟩
  ·cases q
 ·cases q
theorem xj {X:Cx}{x:Str}{np cpos pos:Pos}{e:Expr}{es:List Expr}{t:TA}{C:Addr}{B newId initId:String}{bmB:List ag}{J:ag->St->Hp->Prop}(FB:ExcBaseFacts B newId initId bmB) (O:excIn X.K C bmB newId=true) (hm:X.mg x=some (.ref C)) (hc:X.calm=true) (am:UE X J)
  (hg:Gl X x) (ha:PA X (e::es) t) (hdb:(x == ("__debug__" : Str))=false:=by decide) (he:aH (e::es) X.env=(false,eval e X.env)::aH es X.env:=by rfl) (hpl:(ck cpos (aH es X.env)).any (·.1)=false:=by rfl) :
  PS X (.Raise (some (.Call (.Name x np) (e::es) [] cpos)) none pos) (λD σ H=>t σ H λvs H1=>vs.length<=sizeLine/\J (.ref C) σ H1):=by
 intro pins s σ H D I h
 obtain ⟨bm,N,nm,q,bs,hdct,sn,sub,ab,col,dd,k0,k1,k2,k3,k5,mN,hC,hN,hni,T⟩:=U1 I.ok.mod.kin O
 have h':=ha cpos pins s σ H _ I h
 rw [he] at h'
 refine wpAny_Raise_call_subT (C:=C) (nm:=nm) (q:=q) (N:=N) (bs:=bs) (bm:=bm) (hdct:=hdct) (sn:=sn) (sub:=sub) (ab:=ab) (col:=col) (dd:=dd) (k0:=k0) (k1:=k1) (k2:=k2) (k3:=k3) (k5:=k5)
  FB (mN:=mN) (T.hasType FB.hasBase) (I.ok.hd hc) (by rw [he];show (false || (ck cpos (aH es X.env)).any (·.1))=false;rw [hpl];rfl) hni (yQ I hg hm ⟨rfl,?_⟩ hdb)
 rw [he]
 refine fU (thn h' λus s2 ⟨vs,H2,I2,r,hl,j⟩=>⟨rfl,by rw [<- r.length];exact hl,I2.bk _ _ hC,hN.keeps I2.bk,T.keeps I2.bk,λh1 a hx=>am pins σ H2 s2 h1 a (.ref C) _ I2 hx j⟩)
theorem Fun.okX {P:Program}{w:aV}{K:aj}{mg:Str->Option ag}{base:Heap}{x qual:Str}{st:Stmt}{f:Addr}{fd:FuncData}{N ps:List Str}{k:Nat}{sp:Sp}(F:Fun K x qual st f fd) (S:FnScope N ps (j8 st)) (len:∀vs H Q E,sp vs H Q E->vs.length=ps.length)
  (hbody:∀(cdv:ag) (A:ba) (outer:List Env) (s:Shared) (H:Hp) (vs:List V) (Q:VK) (E:XK),Room k (A.deeper (iL qual (j8 st) s.heap.objs.size f cdv))->sp vs H Q E ->
   ∃t,PSs (yI (CX1 P w) P w K mg base N qual (j8 st) f cdv A outer s H E) (jF st) t/\t { nx:=λ_ H'=>Q .non H',rt:=Q } (start N vs) H):FnOk P w K mg base (CX1 P w) (k+1) f fd ps sp:=by
 obtain ⟨oc,od,kV,doc,pm,an,cdv,ct,osl,rfl,lk,hcd⟩:=F.ex
 exact Zb lk hcd S len λA outer s H vs Q E hr hsp=>hbody cdv A outer s H vs Q E hr hsp
theorem CalX.mk' {P:Program}{w:aV}{K:aj}{mg:Str->Option ag}{base:Heap}{k:Nat}{x:Str}{ps:List Str}{sp:Sp}{st:Stmt}{h:Heap}{f:Addr}{oc:ag}{od an:Option Addr}{osl:Array (Option ag)}{kV doc pm cdv ct:ag}
  (X:K.In h) (G:h.Ns mainGlobals mg) (a:aP K mainGlobals x=some (some (.ref f)))
  (l:K.lookup f=some ⟨oc,od,.func (bx x x (jL st) (jF st) (j8 st) .none kV doc pm an cdv ct),osl⟩) (c:cx K cdv x=true) (k':bJ K (.ref f)=true)
  (hb:∀(kV doc pm:ag) (an:Option Addr) (cdv ct:ag) (us:List ag),us.length=ps.length->cv (bx x x (jL st) (jF st) (j8 st) .none kV doc pm an cdv ct) ⟨us,[]⟩=pure (ps.zip us))
  (ok:∀{f:Addr} {fd:FuncData},Fun K x x st f fd->FnOk P w K mg base (CX1 P w) k f fd ps sp):CalX P w K mg base k x ps sp:=by
 have F:=yx (st:=st) l c k'
 exact ⟨f,_,ok F,F.binds hb,bf X G a,k'⟩
end L2
end
section
namespace L2
open PySem.W
section
variable {X:Cx}{pins pn:List (Addr×Obj)}{σ:St}{H:Hp}{s:Shared}{J:ag->St->Hp->Prop}
theorem okP (ok:X.Ok) (Y:Cx) (h:Y={ X with pn:=Y.pn,xe:=Y.xe }):Y.Ok:=by
 rw [h]
 exact ⟨ok.mod,ok.kind,ok.glob,ok.blt,ok.above,ok.inj,ok.has,ok.cab,ok.hd,ok.frames,ok.stk,ok.exf,ok.bs,ok.bsz,ok.noex,ok.exfs,ok.funs,ok.frf⟩
theorem spOf {Y:Cx}{pins':List (Addr×Obj)}{D:Ends}{f:Flow}{s':Shared}(g:∀{σ H},Inv Y pins' σ H s'->Inv X pins σ H s') (h:SP Y pins' D f s'):SP X pins D f s':=by
 cases f with
 | next=>obtain ⟨σ',H',I,q⟩:=h;exact ⟨σ',H',g I,q⟩
 | brk=>obtain ⟨σ',H',I,q⟩:=h;exact ⟨σ',H',g I,q⟩
 | cont=>obtain ⟨σ',H',I,q⟩:=h;exact ⟨σ',H',g I,q⟩
 | ret u=>obtain ⟨v,σ',H',I,r,q⟩:=h;exact ⟨v,σ',H',g I,r,q⟩
end
end L2
end
section
namespace L2
open PySem.W
section
variable {s:Shared}{A:ba}{prog:Program}{w:aV}{E:ag->Shared->Prop}
end
section
variable {X:Cx}
end
end L2
end
section
namespace L2
open PySem.W
end L2
end
section
namespace L2
open PySem.W
section
variable {X:Cx}{o e:Expr}{es:List Expr}{to:TE}{t:TA}{name:Str}{apos cpos:Pos}{id:String}{r:V->List V->Hp->VK->Prop}
end
end L2
end
section
namespace L2
open PySem.W
abbrev uu (ifs:List Expr) (env:Env):Sem Bool:=rg ifs true λc r=>if r=true then do let ok <- isTrue c env (eval c env);pure (bL ok) else pure (bL r)
abbrev x4 (elt tg iter tg2 iter2:Expr) (ifs ifs2:List Expr) (scope:Scope) (pos:Pos):Expr:=.ListComp elt [⟨tg,iter,ifs,0⟩,⟨tg2,iter2,ifs2,0⟩] scope pos
theorem Xm (elt tg iter tg2 iter2:Expr) (ifs ifs2:List Expr) (scope:Scope) (pos:Pos) (it acc:ag) (env:Env) :
  n9 (x4 elt tg iter tg2 iter2 ifs ifs2 scope pos) 0 it acc env=(eU iter.pos >>= λ_=>fq it >>= λr=>match r with
   | none=>pure (.done .next)
   | some v=>cQ tg it v >>= λ_=>fZ tg env v >>= λ_=>uu ifs env >>= λok =>
    (if ok=true then (eval iter2 env >>= λx=>eU iter2.pos >>= λ_=>cu iter2 env x >>= λx=>eF [x] (lV x) >>= λi2=>runOwn (.compStart (x4 elt tg iter tg2 iter2 ifs ifs2 scope pos) 1 i2 acc env) env >>= λ_=>again (.compLoop (x4 elt tg iter tg2 iter2 ifs ifs2 scope pos) 0 it acc env))
     else again (.compLoop (x4 elt tg iter tg2 iter2 ifs ifs2 scope pos) 0 it acc env))):=by
 rfl
theorem Y8 (elt tg iter tg2 iter2:Expr) (ifs ifs2:List Expr) (scope:Scope) (pos:Pos) (it acc:ag) (env:Env) :
  n9 (x4 elt tg iter tg2 iter2 ifs ifs2 scope pos) 1 it acc env=(eU iter2.pos >>= λ_=>fq it >>= λr=>match r with
   | none=>pure (.done .next)
   | some v=>cQ tg2 it v >>= λ_=>fZ tg2 env v >>= λ_=>uu ifs2 env >>= λok =>
    (if ok=true then ((eval elt env >>= λx=>call (.builtin "list.append") [acc,x] >>= λ_=>pure ()) >>= λ_=>again (.compLoop (x4 elt tg iter tg2 iter2 ifs ifs2 scope pos) 1 it acc env))
     else again (.compLoop (x4 elt tg iter tg2 iter2 ifs ifs2 scope pos) 1 it acc env))):=by
 rfl
section
variable {s:Shared}{A:ba}{prog:Program}{w:aV}{R:lW->Shared->Prop}{elt tg iter tg2 iter2:Expr}{ifs ifs2:List Expr}{scope:Scope}{pos:Pos}{it acc:ag}{env:Env}
theorem Y5 (I:Nat->Shared->Prop)
  (turn:∀n s,I n s->ay (aC prog w) A (fq it) (λr s₁=>match r with
   | none=>R (.ok .next) s₁
   | some v=>ay (aC prog w) A (cQ tg2 it v) (λ_ s₂=>ay (aC prog w) A (fZ tg2 env v) (λ_ s₃=>ay (aC prog w) A (uu ifs2 env) (λok s₄ =>
      if ok=true then ay (aC prog w) A (eval elt env) (λx s₅=>ay (aC prog w) A (call (.builtin "list.append") [acc,x]) (λ_ s₆=>∃m,m<n/\I m s₆) (λ_ _=>False) s₅) (λ_ _=>False) s₄
      else ∃m,m<n/\I m s₄) (λ_ _=>False) s₃) (λ_ _=>False) s₂) (λ_ _=>False) s₁) (λ_ _=>False) s)
  (n:Nat) (h:I n s):cI (aC prog w) A (.compLoop (x4 elt tg iter tg2 iter2 ifs ifs2 scope pos) 1 it acc env) R s:=by
 refine n6 rfl I (λn s hI=>?_) n h
 show ay _ A ((n9 (x4 elt tg iter tg2 iter2 ifs ifs2 scope pos) 1 it acc env).onRaise (λx=>do ik x env;lK x)) _ _ s
 refine oo ?_;rw [Y8]
 refine ae (cH (ae (aX (turn n s hI) (λr s₁ h₁=>?_) λ_ _ h'=>h'.elim)))
 cases r with
 | none=>exact wpAny_pure h₁
 | some v =>
  refine ae (aX h₁ (λ_ s₂ h₂=>?_) λ_ _ h'=>h'.elim)
  refine ae (aX h₂ (λ_ s₃ h₃=>ae (aX h₃ (λok s₄ h₄=>?_) λ_ _ h'=>h'.elim)) λ_ _ h'=>h'.elim)
  cases ok with
  | false=>exact wpAny_pure ⟨rfl,h₄⟩
  | true=>exact ae (ae (aX h₄ (λx s₅ h₅=>ae (aX h₅ (λ_ s₆ h₆=>wpAny_pure (wpAny_pure ⟨rfl,h₆⟩)) λ_ _ h'=>h'.elim)) λ_ _ h'=>h'.elim))
theorem Xl {R:lW->Shared->Prop}(h0:cI (aC prog w) A (.compLoop (x4 elt tg iter tg2 iter2 ifs ifs2 scope pos) 1 it acc env) R s)
  (h:ay (aC prog w) A (lV it) (λi2 s'=>cI (aC prog w) A (.compLoop (x4 elt tg iter tg2 iter2 ifs ifs2 scope pos) 1 i2 acc env) R s') (λ_ _=>False) s) :
  cI (aC prog w) A (.compStart (x4 elt tg iter tg2 iter2 ifs ifs2 scope pos) 1 it acc env) R s:=by
 refine codeAny_of_tree ?_
 show ay _ _ ((compStart (x4 elt tg iter tg2 iter2 ifs ifs2 scope pos) 1 it acc env).onRaise (λx=>do ik x env;eU theWindowsPlace)) _ _ s
 refine wpAny_notedAt ?_;unfold compStart;show ay _ _ (ask >>= _) _ _ s
 refine ae (wpAny_askSetting (wpAny_ite ?_))
 split
 ·first | exact ae (wpAny_pure (wpAny_pure (fj rfl h0))) | exact wpAny_pure (fj rfl h0)
 ·first
   | exact ae (eY (ae (cH (ae (aX h (λi2 s' h'=>wpAny_pure (fj rfl h')) λ_ _ x=>x.elim)))))
   | (refine ae (eY ?_);show ay _ _ (eU iter2.pos >>= _) _ _ s;exact ae (cH (ae (aX h (λi2 s' h'=>wpAny_pure (fj rfl h')) λ_ _ x=>x.elim))))
theorem XQ (I:Nat->Shared->Prop) (hs2:∀x,cu iter2 env x=pure x)
  (turn:∀n s,I n s->ay (aC prog w) A (fq it) (λr s₁=>match r with
   | none=>R (.ok .next) s₁
   | some v=>ay (aC prog w) A (cQ tg it v) (λ_ s₂=>ay (aC prog w) A (fZ tg env v) (λ_ s₃=>ay (aC prog w) A (uu ifs env) (λok s₄ =>
      if ok=true then ay (aC prog w) A (eval iter2 env) (λx s₅=>ay (aC prog w) A (lV x) (λi2 s₆=>cI (aC prog w) A (.compStart (x4 elt tg iter tg2 iter2 ifs ifs2 scope pos) 1 i2 acc env) (λr s'=>match r with | .ok _=>∃m,m<n/\I m s' | .error _=>False) s₆) (λ_ _=>False) s₅) (λ_ _=>False) s₄
      else ∃m,m<n/\I m s₄) (λ_ _=>False) s₃) (λ_ _=>False) s₂) (λ_ _=>False) s₁) (λ_ _=>False) s)
  (n:Nat) (h:I n s):cI (aC prog w) A (.compLoop (x4 elt tg iter tg2 iter2 ifs ifs2 scope pos) 0 it acc env) R s:=by
 refine n6 rfl I (λn s hI=>?_) n h
 show ay _ A ((n9 (x4 elt tg iter tg2 iter2 ifs ifs2 scope pos) 0 it acc env).onRaise (λx=>do ik x env;lK x)) _ _ s
 refine oo ?_;rw [Xm]
 refine ae (cH (ae (aX (turn n s hI) (λr s₁ h₁=>?_) λ_ _ h'=>h'.elim)))
 cases r with
 | none=>exact wpAny_pure h₁
 | some v =>
  refine ae (aX h₁ (λ_ s₂ h₂=>?_) λ_ _ h'=>h'.elim)
  refine ae (aX h₂ (λ_ s₃ h₃=>ae (aX h₃ (λok s₄ h₄=>?_) λ_ _ h'=>h'.elim)) λ_ _ h'=>h'.elim)
  cases ok with
  | false=>exact wpAny_pure ⟨rfl,h₄⟩
  | true =>
   refine ae (aX h₄ (λx s₅ h₅=>ae (cH (ae (ow (hs2 x) (ae (bG (aX h₅ (λi2 s₆ h₆=>ae (wpAny_runOwn ?_)) λ_ _ h'=>h'.elim))))))) λ_ _ h'=>h'.elim)
   rw [Around.mark_none]
   refine dj h₆ λr s' q=>?_
   cases r with
   | ok f=>exact wpAny_pure ⟨rfl,q⟩
   | error e=>exact q.elim
end
def uG (acc:Addr) (g2:TG) (ti2:TT) (te:TE) (J2:It) (NX:St->Hp->Prop) (σ3:St) (H5:Hp):Prop :=
 ∃W2:Nat->Nat->St->Hp->Prop,(∃m,W2 0 m σ3 H5)/\∀j m σ6 H6,W2 j m σ6 H6->(J2.stop j H6/\NX σ6 H6)\/(J2.go j H6/\∃NX2:St->Hp->Prop,(∀σ7 H7,NX2 σ7 H7->∃m',m'<m/\W2 (j+1) m' σ7 H7) /\
  ∀y H7,J2.yld j H6 y H7->g2 y σ6 H7 λσ8 H8=>ti2 σ8 H8 λok2 H9=>if ok2=true then te σ8 H9 λv H10=>∃ys,H10 acc=some (.lst ys)/\ys.length<sizeLine/\NX2 σ8 (upd H10 acc (.lst (ys++[v]))) else NX2 σ8 H9)
section
variable {X:Cx}{pos:Pos}
def Ua (own:Nat) (caps:List Nat) (wi:TI) (g:TG) (ti:TT) (wi2:TI) (g2:TG) (ti2:TT) (te:TE):TE:=λσ H Q=>wi σ H λJ H1=>∀acc,H1 acc=none ->
 ∃W:Nat->Nat->St->Hp->Prop,(∃m,W 0 m (yr own caps σ) (upd H1 acc (.lst [])))/\∀i m σ' H',W i m σ' H' ->
  (J.stop i H'/\Q (.ref acc) H') \/
  (J.go i H'/\∃NX:St->Hp->Prop,(∀σ2 H2,NX σ2 H2->∃m',m'<m/\W (i+1) m' σ2 H2) /\
   ∀x H2,J.yld i H' x H2->g x σ' H2 λσ3 H3=>ti σ3 H3 λok H4=>if ok=true then wi2 σ3 H4 λJ2 H5=>uG acc g2 ti2 te J2 NX σ3 H5 else NX σ3 H4)
theorem Xw {osc:Scope}{ON N:List Str}{scope:Scope}{own:Nat}{caps:List Nat}{cl:List (Str×Addr)}{tg elt iter tg2 iter2:Expr}{ifs ifs2:List Expr}{g g2:TG}{ti ti2:TT}{wi2:TI}{te:TE}{pins:List (Addr×Obj)}{σ:St}{H:Hp}{s:Shared}{fp:List Addr}{it:Addr}
  {tn:Nat->Heap->Prop} {J:It} {Q:VK} {RR:ag->Addr->lW->Shared->Prop} {E:ag->Shared->Prop}
  (hc:X.calm=true) (S:CompSc osc ON scope own N caps) (hsc:X.env.scope=osc) (hN:X.N=ON) (hcl:∀x,cl.lookup x=if (x,aZ)∈scope.names then X.env.cells.lookup x else none)
  (hg:∀cl C s H ex,PG (X.block scope cl C N s H ex) tg g) (hif:∀cl C s H ex,kB (X.block scope cl C N s H ex) ifs ti) (hi2:∀cl C s H ex,PI (X.block scope cl C N s H ex) tg2 iter2 wi2) (hg2:∀cl C s H ex,PG (X.block scope cl C N s H ex) tg2 g2) (hif2:∀cl C s H ex,kB (X.block scope cl C N s H ex) ifs2 ti2) (he:∀cl C s H ex,PE (X.block scope cl C N s H ex) elt te) (hs2:∀env x,cu iter2 env x=pure x)
  (I:Inv X pins σ H s) (T:Turn X.prog X.w X.K tg J fp it tn) (st:tn 0 s.heap) (hf:∀b∈fp,vE X pins H b)
  (hw:∀acc,H acc=none->∃W:Nat->Nat->St->Hp->Prop,(∃m,W 0 m (yr own caps σ) (upd H acc (.lst [])))/\∀i m σ' H',W i m σ' H' ->
   (J.stop i H'/\Q (.ref acc) H')\/(J.go i H'/\∃NX:St->Hp->Prop,(∀σ2 H2,NX σ2 H2->∃m',m'<m/\W (i+1) m' σ2 H2) /\
    ∀x H2,J.yld i H' x H2->g x σ' H2 λσ3 H3=>ti σ3 H3 λok H4=>if ok=true then wi2 σ3 H4 λJ2 H5=>uG acc g2 ti2 te J2 NX σ3 H5 else NX σ3 H4))
  (fin:∀(D C:Addr) (H':Hp) (s':Shared),Inv X pins σ H' s'->BlockAt X pins H' C->(∃m,s'.heap.Ns C m)->Q (.ref D) H'->RR (.ref D) C (.ok .next) s') :
  ay (aC X.prog X.w) X.A (oJ []) (λacc s₃=>ay (aC X.prog X.w) X.A (pf scope X.env.globals cl [] X.env.qual none .none (some X.env)) (λcenv s₄ =>
   cI (aC X.prog X.w) X.A (.compStart (x4 elt tg iter tg2 iter2 ifs ifs2 scope pos) 0 (.ref it) acc { cenv with scope:=relabel scope X.env }) (RR acc cenv.locals) s₄) E s₃) E s:=by
 have hfs:∀b∈fp,b<s.heap.objs.size:=λb hb=>by
  obtain ⟨o,e,_⟩:=T.obj _ _ st b hb
  exact ar e
 refine bV (lZ S.nocell (by intro y hy;simp at hy) (λh₁ hns₁ hsb₁=>?_) S.kind)
 dsimp only at hns₁ hsb₁ ⊢
 generalize hH2:s.heap.push { cls:=.type "list",dict:=none,data:=.seq ([]:List ag).toArray }=H2 at hns₁ hsb₁ ⊢
 have hCsz:H2.objs.size=s.heap.objs.size+1:=by rw [<- hH2,bK]
 have old:∀b o,s.heap.get? b=some o->h₁.get? b=some o:=λb o e=>hsb₁.extBut b o (aA (by rw [hCsz];exact bC (ar e))) (ah _ (hH2 ▸ ah _ e))
 have eD:h₁.get? s.heap.objs.size=some { cls:=.type "list",data:=.seq #[] }:=hsb₁.extBut _ _ (aA ∅) (ah _ (hH2 ▸ az _ rfl))
 have hDn:H s.heap.objs.size=none:=I.hok.fresh (ao _)
 obtain ⟨W,⟨m0,w0⟩,turn⟩:=hw s.heap.objs.size hDn
 have hns:h₁.Ns H2.objs.size λ_=>none:=hns₁
 have I1:Inv (X.block scope cl H2.objs.size N s H fp) [] (yr own caps σ) (upd H s.heap.objs.size (.lst [])) { s with heap:=h₁,toks:=s.toks+([]:List (Str×ag)).length } :=
  vY S hsc hN hcl I hf hfs rfl hCsz old eD hns _
 have st1:tn 0 h₁:=T.keep 0 _ _ st λb _ o e=>old b o e
 have fpB:∀{H':Hp},(∀b∈fp,H' b=none)->∀b∈fp,vE (X.block scope cl H2.objs.size N s H fp) [] H' b:=λ{H'} hn b hb=>by
  have ok:=I1.ok
  exact ⟨hn b hb,(ok.exf b hb).1,ok.exfs b hb,.inl hb,(ok.exf b hb).2,λp hp=>absurd (show p∈([]:List (Addr×Obj)) from hp) (by simp)⟩
 have back:∀{σ':St} {H':Hp} {s':Shared},Inv (X.block scope cl H2.objs.size N s H fp) [] σ' H' s'->Q (.ref s.heap.objs.size) H'->RR (.ref s.heap.objs.size) H2.objs.size (.ok .next) s':=λ{σ' H' s'} J1 q=>by
  have J2:Inv X pins σ H' s':=I.call' (ch:=fp) J1.os J1.base J1.hok J1.bare λb hb=>⟨(hf b hb).2.2.2.1,(hf b hb).2.1,(hf b hb).2.2.2.2.1,(hf b hb).2.2.2.2.2⟩
  obtain ⟨m,hm,_⟩:=J1.loc
  refine fin _ _ H' s' J2 ⟨J1.free,cq (aK I.lt ∅),aF I.sz ∅,λx c e z=>?_,λp hp z=>?_⟩ ⟨m,hm⟩ q
  ·obtain ⟨v,y⟩:=I.cell x c e
   have h1:H2.objs.size<s.heap.objs.size:=z ▸ y.lt
   exact absurd h1 ∅
  ·have h1:H2.objs.size<s.heap.objs.size:=z ▸ ar (I.pin p hp).1
   exact absurd h1 ∅
 have loop:∀s₃:Shared,s₃={ s with heap:=h₁,toks:=s.toks+([]:List (Str×ag)).length } ->
   cI (aC X.prog X.w) X.A (.compLoop (x4 elt tg iter tg2 iter2 ifs ifs2 scope pos) 0 (.ref it) (.ref s.heap.objs.size) (p0 scope cl H2.objs.size X.env)) (RR (.ref s.heap.objs.size) H2.objs.size) s₃:=by
  rintro s₃ rfl
  refine XQ (λn s'=>∃i σ' H',Inv (X.block scope cl H2.objs.size N s H fp) [] σ' H' s'/\tn i s'.heap/\(∀b∈fp,H' b=none)/\W i n σ' H') (hs2 _) ?_ m0
   ⟨0,_,_,I1,st1,λb hb=>by rw [j5 (aA (hfs b hb))];exact (hf b hb).1,w0⟩
  rintro n s3 ⟨i,σ3,H3,I3,st3,fr3,w3⟩
  rcases turn i n σ3 H3 w3 with ⟨stop,qn⟩ | ⟨go,NX,hNX,step⟩
  ·refine thn (T.done (X.block scope cl H2.objs.size N s H fp) rfl rfl rfl hc i [] s3 σ3 H3 _ I3 (fpB fr3) st3 stop) λr s4 ⟨hr,I4⟩=>?_
   subst hr
   exact back I4 qn
  ·refine thn (T.item (X.block scope cl H2.objs.size N s H fp) rfl rfl rfl hc i [] s3 σ3 H3 _ I3 (fpB fr3) st3 go) λr s4 ⟨u,hr,h4⟩=>?_
   subst hr
   refine thn h4 λ_ s5 ⟨x,H5,I5,r5,y5,st5,fr5⟩=>?_
   have I5':=I5.pinned (fpB fr5) (T.obj _ _ st5)
   refine thn (hg cl H2.objs.size s H fp _ s5 σ3 H5 x u _ I5' r5 (step x H5 y5)) λ_ s6 ⟨σ6,H6,I6,q6⟩=>?_
   refine thn (hif cl H2.objs.size s H fp _ s6 σ6 H6 _ I6 q6) λok s7 ⟨H7,I7,q7⟩=>?_
   have again:∀{s8:Shared} {σ8:St} {H8:Hp},Inv (X.block scope cl H2.objs.size N s H fp) ([]++xP fp s5.heap) σ8 H8 s8->NX σ8 H8->∃m,m<n/\∃i σ' H',Inv (X.block scope cl H2.objs.size N s H fp) [] σ' H' s8/\tn i s8.heap/\(∀b∈fp,H' b=none)/\W i m σ' H':=λ{s8 σ8 H8} I8 n8=>by
    obtain ⟨m',hm,w8⟩:=hNX σ8 H8 n8
    refine ⟨m',hm,i+1,σ8,H8,I8.unpinned,T.keep _ _ _ st5 λb hb o e=>(I8.pin (b,o) (aE _ (aE _ (qx hb e)))).1,λb hb=>?_,w8⟩
    obtain ⟨o,e,d⟩:=T.obj _ _ st5 b hb
    exact (I8.pin (b,o) (aE _ (aE _ (qx hb e)))).2.1
   cases ok with
   | false =>
    rw [if_neg aq] at q7 ⊢
    exact again I7 q7
   | true =>
    rw [if_pos rfl] at q7 ⊢
    refine thn (hi2 cl H2.objs.size s H fp _ s7 σ6 H7 _ I7 q7) λv s8 h8=>thn h8 λitv s9 h9=>?_
    obtain ⟨it2,fp2,tn2,J2,H9,e,I9,T2,st9,f9,W2,⟨m2,w2⟩,turn2⟩:=h9
    subst e
    have stat2:∀{H':Hp},(∀b∈fp2,H' b=none)->∀b∈fp2,vE (X.block scope cl H2.objs.size N s H fp) ([]++xP fp s5.heap) H' b:=λhn b hb=>⟨hn b hb,(f9 b hb).2⟩
    have inner:cI (aC X.prog X.w) X.A (.compLoop (x4 elt tg iter tg2 iter2 ifs ifs2 scope pos) 1 (.ref it2) (.ref s.heap.objs.size) (p0 scope cl H2.objs.size X.env)) (λr s'=>match r with | .ok _=>∃m,m<n/\∃i σ' H',Inv (X.block scope cl H2.objs.size N s H fp) [] σ' H' s'/\tn i s'.heap/\(∀b∈fp,H' b=none)/\W i m σ' H' | .error _=>False) s9:=by
     refine Y5 (λn2 s'=>∃j σ' H',Inv (X.block scope cl H2.objs.size N s H fp) ([]++xP fp s5.heap) σ' H' s'/\tn2 j s'.heap/\(∀b∈fp2,H' b=none)/\W2 j n2 σ' H') ?_ m2 ⟨0,_,_,I9,st9,λb hb=>(f9 b hb).1,w2⟩
     rintro n2 s10 ⟨j,σ10,H10,I10,st10,fr10,w10⟩
     rcases turn2 j n2 σ10 H10 w10 with ⟨stop2,nx2⟩ | ⟨go2,NX2,hNX2,step2⟩
     ·refine thn (T2.done (X.block scope cl H2.objs.size N s H fp) rfl rfl rfl hc j _ s10 σ10 H10 _ I10 (stat2 fr10) st10 stop2) λr s11 ⟨hr,I11⟩=>?_
      subst hr
      exact again I11 nx2
     ·refine thn (T2.item (X.block scope cl H2.objs.size N s H fp) rfl rfl rfl hc j _ s10 σ10 H10 _ I10 (stat2 fr10) st10 go2) λr s11 ⟨u2,hr,h11⟩=>?_
      subst hr
      refine thn h11 λ_ s12 ⟨x2,H12,I12,r12,y12,st12,fr12⟩=>?_
      have I12':=I12.pinned (stat2 fr12) (T2.obj _ _ st12)
      refine thn (hg2 cl H2.objs.size s H fp _ s12 σ10 H12 x2 u2 _ I12' r12 (step2 x2 H12 y12)) λ_ s13 ⟨σ13,H13,I13,q13⟩=>?_
      refine thn (hif2 cl H2.objs.size s H fp _ s13 σ13 H13 _ I13 q13) λok2 s14 ⟨H14,I14,q14⟩=>?_
      have again2:∀{s15:Shared} {σ15:St} {H15:Hp},Inv (X.block scope cl H2.objs.size N s H fp) (([]++xP fp s5.heap)++xP fp2 s12.heap) σ15 H15 s15->NX2 σ15 H15->∃m,m<n2/\∃j σ' H',Inv (X.block scope cl H2.objs.size N s H fp) ([]++xP fp s5.heap) σ' H' s15/\tn2 j s15.heap/\(∀b∈fp2,H' b=none)/\W2 j m σ' H':=λ{s15 σ15 H15} I15 n15=>by
       obtain ⟨m',hm,w15⟩:=hNX2 σ15 H15 n15
       refine ⟨m',hm,j+1,σ15,H15,I15.unpinned,T2.keep _ _ _ st12 λb hb o e=>(I15.pin (b,o) (aE _ (aE _ (qx hb e)))).1,λb hb=>?_,w15⟩
       obtain ⟨o,e,d⟩:=T2.obj _ _ st12 b hb
       exact (I15.pin (b,o) (aE _ (aE _ (qx hb e)))).2.1
      cases ok2 with
      | false =>
       rw [if_neg aq] at q14 ⊢
       exact again2 I14 q14
      | true =>
       rw [if_pos rfl] at q14 ⊢
       refine thn (he cl H2.objs.size s H fp _ s14 σ13 H14 _ I14 q14) λv15 s15 ⟨y15,H15,I15,r15,ys,e15,z15,q15⟩=>?_
       refine thn (qG _ s15 σ13 H15 (.ref s.heap.objs.size) [y15] _ [v15] (λ_ H16=>NX2 σ13 H16) I15 rfl (.cons r15 .nil) ⟨_,ys,y15,rfl,rfl,e15,z15,q15⟩) λ_ s16 ⟨_,H16,I16,_,q16⟩=>?_
       exact again2 I16 q16
    exact Xl inner (T2.self _ 0 _ _ _ st9 inner)
 exact lB (loop _ rfl) (T.self _ 0 _ _ _ st1 (loop _ rfl))
theorem Ze {osc:Scope}{ON N:List Str}{scope:Scope}{own:Nat}{caps:List Nat}{tg elt iter tg2 iter2:Expr}{ifs ifs2:List Expr}{wi wi2:TI}{g g2:TG}{ti ti2:TT}{te:TE}(S:CompSc osc ON scope own N caps)
  (hc:X.calm=true) (hsc:X.env.scope=osc) (hN:X.N=ON) (hi:PI X tg iter wi)
  (hg:∀cl C s H ex,PG (X.block scope cl C N s H ex) tg g) (hif:∀cl C s H ex,kB (X.block scope cl C N s H ex) ifs ti) (hi2:∀cl C s H ex,PI (X.block scope cl C N s H ex) tg2 iter2 wi2) (hg2:∀cl C s H ex,PG (X.block scope cl C N s H ex) tg2 g2) (hif2:∀cl C s H ex,kB (X.block scope cl C N s H ex) ifs2 ti2) (he:∀cl C s H ex,PE (X.block scope cl C N s H ex) elt te)
  (hs:∀x,cu iter X.env x=pure x:=by intro _;rfl) (hs2:∀env x,cu iter2 env x=pure x:=by intro _ _;rfl):PE X (.ListComp elt [⟨tg,iter,ifs,0⟩,⟨tg2,iter2,ifs2,0⟩] scope pos) (Ua own caps wi g ti wi2 g2 ti2 te):=by
 intro pins s σ H Q I h
 obtain ⟨cl,hclos,hcl⟩:=yL (JY S hsc I)
 rw [pO]
 refine eQ (use:=none) rfl hs hclos S.kind S.loc (thn (hi pins s σ H _ I h) λv s1 h1=>thn h1 λitv s2 h2=>?_)
 obtain ⟨it,fp,tn,J,H2,e,I2,T,st2,f2,hw⟩:=h2
 subst e
 refine Xw (RR:=λacc C=>rm (aC X.prog X.w) X.A X.xe none (EP X pins σ Q) acc C) hc S hsc hN hcl hg hif hi2 hg2 hif2 he hs2 I2 T st2 f2 hw λD C H' s' J1 B ⟨m,hm⟩ q=>?_
 exact ⟨m,hm,λh' hs'=>⟨.ref D,H',B.gone J1 hs',rfl,q⟩⟩
end
end L2
end
section
namespace L2
open PySem.W
structure CalM (P:Program) (w:aV) (K:aj) (mg:Str->Option ag) (base:Heap) (k:Nat) (C:Addr) (m:Str) (ps:List Str) (sp:Sp):Prop where
 ex:∃f fd,FnOk P w K mg base CX0 k f fd ps sp/\zP K fd ps []/\Meth K C m f
structure CalMX (P:Program) (w:aV) (K:aj) (mg:Str->Option ag) (base:Heap) (k:Nat) (C:Addr) (m:Str) (ps:List Str) (sp:Sp):Prop where
 ex:∃f fd,FnOk P w K mg base (CX1 P w) k f fd ps sp/\zP K fd ps []/\Meth K C m f
section
variable {X:Cx}{k:Nat}{f C:Addr}{fd:FuncData}{ps:List Str}{sp:Sp}{x m:Str}{p pos apos:Pos}{e o:Expr}{es:List Expr}{ta:TE}{t:TA}{J:ag->St->Hp->Prop}
theorem UR {pins:List (Addr×Obj)}{σ:St}{H:Hp}{s:Shared}{Q:VK}{us:List ag}{vs:List V}(F:FnOk X.prog X.w X.K X.mg X.base (CX1 X.prog X.w) k f fd ps sp) (hr:Room k X.A) (hb:zP X.K fd ps []) (ac:Acc X J)
  (I:Inv X pins σ H s) (r:jx vs us) (h:sp vs H Q λcls _ H'=>J cls σ H'):ay (aC X.prog X.w) X.A (call (.ref f) us) (EP X pins σ Q) X.xe s:=by
 have hl:us.length=ps.length:=by rw [<- r.length];exact F.len _ _ _ _ h
 have hb':=hb s us I.kIn (by rw [bo];exact hl)
 rw [bo] at hb'
 refine lp (dj (F.run X.A X.stack s H ⟨us,[]⟩ us vs Q _ hr I.env0 hb' r h) λr s' hq=>?_)
 cases r with
 | error e =>
  obtain ⟨a,cls,H',rfl,os,b,u,ok,fy,j⟩:=hq
  exact ac pins σ H' s' a cls ⟨s,H,I,os,b,u,ok,fy⟩ j
 | ok fl =>
  cases fl with
  | ret u=>exact I.after hq
  | next=>exact bu hq
  | brk=>exact bu hq
  | cont=>exact bu hq
theorem pe_m {pl:Sem Bool}(he:PE X o ta) (c:Cls X.K C) (cm:CalM X.prog X.w X.K X.mg X.base k C m ps sp) (hr:Room k X.A) (ha:PA X (e::es) t)
  (hst:aH (e::es) X.env=(false,eval e X.env)::aH es X.env:=by rfl) (hpl:(ck pos (aH es X.env)).any (·.1)=false:=by rfl)
  (ht:eval (.Call (.Attribute o m apos) (e::es) [] pos) X.env=(do let ov <- eval o X.env;eU apos.atName;let (f,first) <- eF [ov] (iU ov m pl);mW pos f first (ck pos (aH (e::es) X.env)) (iq pos (ee [] X.env))):=by rfl) :
  PE X (.Call (.Attribute o m apos) (e::es) [] pos) (Vb C m sp [] E0 ta t):=by
 obtain ⟨f,fd,F,hb,hm⟩:=cm.ex
 exact YE he c hm F hr hb .nil Vc ha hst hpl ht
def VF (C:Addr) (m:Str) (sp:Sp) (J:ag->St->Hp->Prop) (ta:TE) (t:TA):TE:=λσ H Q=>ta σ H λx H1=>∃a dx fs,x = .ref a/\H1 a=some (.ins C dx fs)/\fs.lookup m=none/\t σ H1 λvs H2=>sp (x::vs) H2 Q λcls _ H'=>J cls σ H'
theorem zQ {pl:Sem Bool}(he:PE X o ta) (c:Cls X.K C) (cm:CalMX X.prog X.w X.K X.mg X.base k C m ps sp) (hr:Room k X.A) (ac:Acc X J) (ha:PA X (e::es) t)
  (hst:aH (e::es) X.env=(false,eval e X.env)::aH es X.env:=by rfl) (hpl:(ck pos (aH es X.env)).any (·.1)=false:=by rfl)
  (ht:eval (.Call (.Attribute o m apos) (e::es) [] pos) X.env=(do let ov <- eval o X.env;eU apos.atName;let (f,first) <- eF [ov] (iU ov m pl);mW pos f first (ck pos (aH (e::es) X.env)) (iq pos (ee [] X.env))):=by rfl) :
  PE X (.Call (.Attribute o m apos) (e::es) [] pos) (VF C m sp J ta t):=by
 obtain ⟨f,fd,F,hb,hm⟩:=cm.ex
 intro pins s σ H Q I h
 refine fL (pl:=pl) (thn (he pins s σ H _ I h) λu s1 ⟨x,H1,I1,rx,a,dx,fs,ex,ea,l,q⟩=>?_) ht
 subst ex
 obtain rfl:u=b0 a:=rx
 refine yF I1 ea c hm l ?_
 refine dM (first:=[.ref a]) (h₀:=X.base) I.ok.mod.kin hm.kp (thn (ha pos pins s1 σ H1 _ I1 q) λus s2 ⟨vs,H2,I2,r,q2⟩=>⟨I2.kIn,?_⟩) hst hpl
 exact UR (us:=.ref a::us) (vs:=.ref a::vs) F hr hb ac I2 (.cons rfl r) q2
structure MakX (P:Program) (w:aV) (K:aj) (mg:Str->Option ag) (base:Heap) (k:Nat) (C:Addr) (x:Str) (ps:List Str) (sp:Sp):Prop where
 ex:∃f fd,FnOk P w K mg base (CX1 P w) k f fd ps sp/\zP K fd ps []/\Mk K C f/\mg x=some (.ref C)
def Vk (C:Addr) (sp:Sp) (J:ag->St->Hp->Prop) (t:TA):TE:=λσ H Q=>t σ H λvs H1=>∀x dx,H1 x=none->H1 dx=none->dx≠x ->
 sp (.ref x::vs) (upd (upd H1 dx (.own x)) x (.ins C dx [])) (λv H2=>v = .non/\Q (.ref x) H2) λcls _ H'=>J cls σ H'
theorem Yr (c:MakX X.prog X.w X.K X.mg X.base k C x ps sp) (hr:Room (k+1) X.A) (ac:Acc X J) (hg:Gl X x) (ha:PA X (e::es) t) (hdb:(x == ("__debug__" : Str))=false:=by decide) (he:aH (e::es) X.env=(false,eval e X.env)::aH es X.env:=by rfl) (hpl:(ck pos (aH es X.env)).any (·.1)=false:=by rfl) :
  PE X (.Call (.Name x p) (e::es) [] pos) (Vk C sp J t):=by
 obtain ⟨f,fd,F,hb,M,hm⟩:=c.ex
 intro pins s0 σ H0 Q I0 h0
 refine cF (yQ I0 hg hm ?_ hdb)
 refine dM (h₀:=X.base) I0.ok.mod.kin M.kp (thn (ha pos pins s0 σ H0 _ I0 h0) λus s ⟨vs,H,I,r,h⟩=>⟨I.kIn,?_⟩) he hpl
 have hq:=h (s.heap.objs.size+1) s.heap.objs.size (I.hok.fresh (fe _)) (I.hok.fresh (ao _)) (aA (dw _))
 have I2:=Inv.made (C:=C) I
 have r2:jx (V.ref (s.heap.objs.size+1)::vs) (b0 (s.heap.objs.size+1)::us):=.cons rfl r
 have hl:(b0 (s.heap.objs.size+1)::us).length=ps.length:=by rw [<- r2.length];exact F.len _ _ _ _ hq
 have hb':=hb { s with heap:=_ } (b0 (s.heap.objs.size+1)::us) I2.kIn (by rw [bo];exact hl)
 rw [bo] at hb'
 refine lp (Zk (f:=f) I.kIn M.makes M.init (beq_iff_eq.mp M.fn) (dj (F.run _ X.stack _ _ ⟨b0 (s.heap.objs.size+1)::us,[]⟩ (b0 (s.heap.objs.size+1)::us) _ _ _ (hr.make C us []) (I2.env0.make C us []) hb' r2 hq) λr s' hq'=>?_))
 cases r with
 | error e =>
  obtain ⟨a,cls,H',rfl,os,b,u,ok,fy,j⟩:=hq'
  exact ac pins σ H' s' a cls ⟨_,_,I2,os,b,u,ok,fy⟩ j
 | ok fl =>
  cases fl with
  | ret u =>
   obtain ⟨v,H',I3,rv,ev,q3⟩:=I2.after hq'
   subst ev
   exact ⟨rv,⟨V.ref (s.heap.objs.size+1),H',I3,rfl,q3⟩⟩
  | next=>exact bu hq'
  | brk=>exact bu hq'
  | cont=>exact bu hq'
theorem qV {f:Str}(K:aj) (he:PE X e ta) (hb:eN e f X.env (eval e X.env)=eval e X.env:=by rfl) (hK:X.K=K:=by rfl):PE X (.Attribute e f pos) (Us K ta f):=by subst hK;exact Vv he hb
theorem vt {f:Str}{value:Expr}{pos':Pos}{tv:TE}(K:aj) (ha:PE X o ta) (hv:PE X value tv) (hs:ij value (some (.Attribute o f pos')) pos.line X.env=pure false:=by rfl) (hK:X.K=K:=by rfl):PS X (.Assign [.Attribute o f pos'] value pos) (Uf K ta tv f):=by subst hK;exact Uc ha hv hs
end
theorem VW {K:aj}{a acc:Addr}{xs:List V}{g2:TG}{ti2:TT}{te:TE}{NX:St->Hp->Prop}{σ:St}{H:Hp}(Pv:Nat->St->Hp->Prop) (h0:Pv 0 σ H) (hl:∀i σ H,i<=xs.length->Pv i σ H->SqT K H a xs)
  (hs:∀i x σ H,xs[i]? = some x->Pv i σ H->g2 x σ H λσ3 H3=>ti2 σ3 H3 λok H4=>if ok=true then te σ3 H4 λv H5=>∃ys,H5 acc=some (.lst ys)/\ys.length<sizeLine/\Pv (i+1) σ3 (upd H5 acc (.lst (ys++[v]))) else Pv (i+1) σ3 H4)
  (hd:∀σ H,Pv xs.length σ H->NX σ H):uG acc g2 ti2 te (Itt K a) NX σ H:=by
 refine ⟨λi m σ H=>m=xs.length-i/\i<=xs.length/\Pv i σ H,⟨xs.length,by simp,aJ _,h0⟩,λi m σ H z=>?_⟩
 obtain ⟨rfl,hi,p⟩:=z
 have q:=hl i σ H hi p
 by_cases hlt:i<xs.length
 ·refine .inr ⟨⟨xs,xs[i],q,by simp [hlt]⟩,Pv (i+1),λσ' H' p'=>⟨xs.length-(i+1),∅,rfl,hlt,p'⟩,λx H' y=>?_⟩
  obtain ⟨e,y⟩:=y
  subst e
  exact hs i x σ _ (y xs q) p
 ·obtain rfl:i=xs.length:=∅
  exact .inl ⟨⟨xs,q,ao _⟩,hd σ H p⟩
theorem Xr {K:aj}{a acc:Addr}{xs:List V}{g g2:TG}{ti ti2:TT}{wi2:TI}{te:TE}{R:Hp->Prop}{σ:St}{H:Hp}(Pv:Nat->St->Hp->Prop) (h0:Pv 0 σ H) (hl:∀i σ H,i<=xs.length->Pv i σ H->SqT K H a xs)
  (hs:∀i x σ H,xs[i]? = some x->Pv i σ H->g x σ H λσ3 H3=>ti σ3 H3 λok H4=>if ok=true then wi2 σ3 H4 λJ2 H5=>uG acc g2 ti2 te J2 (Pv (i+1)) σ3 H5 else Pv (i+1) σ3 H4)
  (hd:∀σ H,Pv xs.length σ H->R H) :
  ∃W:Nat->Nat->St->Hp->Prop,(∃m,W 0 m σ H)/\∀i m σ' H',W i m σ' H' ->
   ((Itt K a).stop i H'/\R H')\/((Itt K a).go i H'/\∃NX:St->Hp->Prop,(∀σ2 H2,NX σ2 H2->∃m',m'<m/\W (i+1) m' σ2 H2) /\
    ∀x H2,(Itt K a).yld i H' x H2->g x σ' H2 λσ3 H3=>ti σ3 H3 λok H4=>if ok=true then wi2 σ3 H4 λJ2 H5=>uG acc g2 ti2 te J2 NX σ3 H5 else NX σ3 H4):=by
 refine ⟨λi m σ H=>m=xs.length-i/\i<=xs.length/\Pv i σ H,⟨xs.length,by simp,aJ _,h0⟩,λi m σ H z=>?_⟩
 obtain ⟨rfl,hi,p⟩:=z
 have q:=hl i σ H hi p
 by_cases hlt:i<xs.length
 ·refine .inr ⟨⟨xs,xs[i],q,by simp [hlt]⟩,Pv (i+1),λσ' H' p'=>⟨xs.length-(i+1),∅,rfl,hlt,p'⟩,λx H' y=>?_⟩
  obtain ⟨e,y⟩:=y
  subst e
  exact hs i x σ _ (y xs q) p
 ·obtain rfl:i=xs.length:=∅
  exact .inl ⟨⟨xs,q,ao _⟩,hd σ H p⟩
theorem gh {X:Cx}:Acc X λ_ _ _=>False:=λ_ _ _ _ _ _ _ z=>z.elim
end L2
end
section
namespace L2
open PySem.W
inductive gN (K:aj) (n:Str) (s:Stmt):Prop
 | mk {f:Addr} {oc kV dc pm cd ct:ag} {od an:Option Addr} {sl:Array (Option ag)} (a:nsIn K mainGlobals n=some (some (.ref f))) (l:K.lookup f=some ⟨oc,od,.func (fnOf n n (jL s) (jF s) (j8 s) .none kV dc pm an cd ct),sl⟩) (c:codeIn K cd n=true) (k:keepIn K (.ref f)=true)
inductive gM (K:aj) (C:Addr) (m q:Str) (s:Stmt):Prop
 | mk {f:Addr} {oc kV dc pm cd ct:ag} {od an:Option Addr} {sl:Array (Option ag)} (a:findIn K (.ref C) m=some (some (.ref f))) (i:isFn K (.ref f)=true) (l:K.lookup f=some ⟨oc,od,.func (fnOf m q (jL s) (jF s) (j8 s) .none kV dc pm an cd ct),sl⟩) (c:codeIn K cd q=true) (k:keepIn K (.ref f)=true)
structure gE (K:aj) (n:Str) (C:Addr):Prop where
 e:nsIn K mainGlobals n=some (some (.ref C))
 x:excIn K C [.type "ValueError",.type "Exception",.type "BaseException",.type "object"] "ValueError.__new__" = true
 m:exmOne K (.ref C) (.ref C)=some true
abbrev gB (x q:Str) (st:Stmt) (ps:List Str):Prop:=∀(kV doc pm:ag) (an:Option Addr) (cdv ct:ag) (us:List ag),us.length=ps.length->cv (fnOf x q (jL st) (jF st) (j8 st) .none kV doc pm an cdv ct) ⟨us,[]⟩=pure (ps.zip us)
inductive Zt (P:Program) (w:aV) (K:aj) (mg:Str->Option ag) (base:Heap):Prop
 | mk {h:Heap} (X:K.In h) (G:h.Ns mainGlobals mg)
section
variable {P:Program}{w:aV}{K:aj}{mg:Str->Option ag}{base:Heap}{k:Nat}{x q:Str}{ps:List Str}{sp:Sp}{st:Stmt}{C:Addr}
theorem gN.cal (a:gN K x st) (z:Zt P w K mg base) (hb:gB x x st ps)
  (ok:∀{f:Addr} {fd:FuncData},Fun K x x st f fd->FnOk P w K mg base CX0 k f fd ps sp):Cal P w K mg base k x ps sp:=by
 obtain ⟨a,l,c,k'⟩:=a
 obtain ⟨X,G⟩:=z
 exact Cal.mk' X G a l c k' hb ok
theorem gN.calX (a:gN K x st) (z:Zt P w K mg base) (hb:gB x x st ps)
  (ok:∀{f:Addr} {fd:FuncData},Fun K x x st f fd->FnOk P w K mg base (CX1 P w) k f fd ps sp):CalX P w K mg base k x ps sp:=by
 obtain ⟨a,l,c,k'⟩:=a
 obtain ⟨X,G⟩:=z
 exact CalX.mk' X G a l c k' hb ok
theorem gM.cal (a:gM K C x q st) (z:Zt P w K mg base) (hb:gB x q st ps)
  (ok:∀{f:Addr} {fd:FuncData},Fun K x q st f fd->FnOk P w K mg base CX0 k f fd ps sp):CalM P w K mg base k C x ps sp:=by
 obtain ⟨a,i,l,c,k'⟩:=a
 have F:=yx (st:=st) l c k'
 exact ⟨_,_,ok F,F.binds hb,⟨a,i,k'⟩⟩
theorem gM.calX (a:gM K C x q st) (z:Zt P w K mg base) (hb:gB x q st ps)
  (ok:∀{f:Addr} {fd:FuncData},Fun K x q st f fd->FnOk P w K mg base (CX1 P w) k f fd ps sp):CalMX P w K mg base k C x ps sp:=by
 obtain ⟨a,i,l,c,k'⟩:=a
 have F:=yx (st:=st) l c k'
 exact ⟨_,_,ok F,F.binds hb,⟨a,i,k'⟩⟩
theorem gM.mak {y:Str}(a:gM K C "__init__" q st) (z:Zt P w K mg base) (m:makesIn K C=true) (kc:keepIn K (.ref C)=true) (n:nsIn K mainGlobals y=some (some (.ref C))) (hb:gB "__init__" q st ps)
  (ok:∀{f:Addr} {fd:FuncData},Fun K "__init__" q st f fd->FnOk P w K mg base (CX1 P w) k f fd ps sp):MakX P w K mg base k C y ps sp:=by
 obtain ⟨a,i,l,c,k'⟩:=a
 obtain ⟨X,G⟩:=z
 have F:=yx (st:=st) l c k'
 exact ⟨_,_,ok F,F.binds hb,⟨m,a,i,kc⟩,mg_of X G n⟩
end
theorem bnd1 {fd:FuncData}{ps:List Str}{us:List ag}(hl:us.length=1) (h:∀a,cv fd ⟨[a],[]⟩=pure (ps.zip [a])):cv fd ⟨us,[]⟩=pure (ps.zip us):=match us,hl with | [a],_=>h a
theorem bnd2 {fd:FuncData}{ps:List Str}{us:List ag}(hl:us.length=2) (h:∀a b,cv fd ⟨[a,b],[]⟩=pure (ps.zip [a,b])):cv fd ⟨us,[]⟩=pure (ps.zip us):=match us,hl with | [a,b],_=>h a b
theorem bnd3 {fd:FuncData}{ps:List Str}{us:List ag}(hl:us.length=3) (h:∀a b c,cv fd ⟨[a,b,c],[]⟩=pure (ps.zip [a,b,c])):cv fd ⟨us,[]⟩=pure (ps.zip us):=match us,hl with | [a,b,c],_=>h a b c
theorem bnd4 {fd:FuncData}{ps:List Str}{us:List ag}(hl:us.length=4) (h:∀a b c d,cv fd ⟨[a,b,c,d],[]⟩=pure (ps.zip [a,b,c,d])):cv fd ⟨us,[]⟩=pure (ps.zip us):=match us,hl with | [a,b,c,d],_=>h a b c d
theorem bnd5 {fd:FuncData}{ps:List Str}{us:List ag}(hl:us.length=5) (h:∀a b c d e,cv fd ⟨[a,b,c,d,e],[]⟩=pure (ps.zip [a,b,c,d,e])):cv fd ⟨us,[]⟩=pure (ps.zip us):=match us,hl with | [a,b,c,d,e],_=>h a b c d e
theorem bnd6 {fd:FuncData}{ps:List Str}{us:List ag}(hl:us.length=6) (h:∀a b c d e f,cv fd ⟨[a,b,c,d,e,f],[]⟩=pure (ps.zip [a,b,c,d,e,f])):cv fd ⟨us,[]⟩=pure (ps.zip us):=match us,hl with | [a,b,c,d,e,f],_=>h a b c d e f
end L2
end
section
namespace L2
open PySem.W
end L2
end
section
namespace L2
end L2
namespace L2
section
variable (P:Program) (w:aV)
end
section
variable {P:Program}{w:aV}{H H':Hp}{h h':Heap}{a:Addr}{o:HO}
end
section
variable {P:Program}{w:aV}{H:Hp}{h h':Heap}{x e:Addr}{o':HO}
end
section
variable {fs fs' ex ex':List Addr}{H H1 H2:Hp}{h h1 h2 h':Heap}{a x e:Addr}{o:HO}
end
end L2
namespace L2
section
variable {X:Cx}{pins:List (Addr×Obj)}{σ:List (Option V)}{H H':Hp}{s:Shared}{h':Heap}
end
end L2
namespace L2
section
variable {X:Cx}
variable {a b:Expr}{ta tb:TE}{pos:Pos}
variable {tA tB':TT}{yN:List Expr}
end
end L2
namespace L2
section
variable {X:Cx}{pins:List (Addr×Obj)}{σ:St}{H:Hp}{s:Shared}{a:Addr}{xs ys:List V}
end
section
variable {X:Cx}{pins:List (Addr×Obj)}{σ:St}{H:Hp}{s:Shared}{E:ag->Shared->Prop}
end
section
variable {X:Cx}{st:Stmt}{yN:List Stmt}{t u:TS}{e:Expr}{te:TE}{pos:Pos}
end
section
variable {X:Cx}{pos:Pos}
end
section
variable {X:Cx}{pos:Pos}
end
end L2
namespace L2
section
variable {X:Cx}{tg:Expr}
end
end L2
namespace L2
section
variable {X:Cx}{a b c:Expr}{ta tb tc:TE}{pos:Pos}
end
section
variable {X:Cx}{a b c:Expr}{ta tb tc:TE}{pos:Pos}
end
end L2
namespace L2
section
variable {prog:Program}{w:aV}{A:ba}{E:ag->Shared->Prop}{s:Shared}{K:aj}{x dx C f:Addr}{mA:Str->Option ag}{name:Str}{v:ag}
end
section
variable {P:Program}{w:aV}{H H':Hp}{h h':Heap}{a C dx:Addr}{fs fs':List (Str×V)}
end
section
variable {X:Cx}{pins:List (Addr×Obj)}{σ:St}{H:Hp}{s:Shared}{a C dx:Addr}{fs:List (Str×V)}{f:Str}{v:V}{A:ba}{E:ag->Shared->Prop}
end
section
variable {X:Cx}{o e value:Expr}{f:Str}{pos pos' tpos:Pos}{ta tv:TE}
end
section
variable {X:Cx}{pins:List (Addr×Obj)}{σ:St}{H:Hp}{s:Shared}{A:ba}{E:ag->Shared->Prop}{Q:ag->Shared->Prop}{c:ag}{b:Bool}
end
end L2
namespace L2
section
variable {X:Cx}{e:Expr}{es:List Expr}{te:TE}{t:TA}{pos:Pos}
end
section
variable {X:Cx}{pins:List (Addr×Obj)}{σ:St}{H:Hp}{s s':Shared}
end
section
variable {X:Cx}{CX:CXT}{k:Nat}{f C:Addr}{fd:FuncData}{ps:List Str}{sp:Sp}{dvs:List V}{ds:List ag}{E:XK}{x m:Str}{p pos apos:Pos}{e o:Expr}{es:List Expr}{ta:TE}{t:TA}
end
section
variable {X:Cx}{CX:CXT}{k:Nat}{f C:Addr}{fd:FuncData}{ps ks:List Str}{sp:Sp}{E:XK}{x m:Str}{p pos apos kpos:Pos}{e o:Expr}{es:List Expr}{kws:List lq}{te ta:TE}{t tk:TA}{nm:Option Str}
variable {g:List ag->List ag->List ag}{gV:List V->List V->List V}
end
end L2
namespace L2
section
variable {X:Cx}{x:Str}{p pos:Pos}{e:Expr}{es:List Expr}{t:TA}{id T:String}{r:List V->Hp->VK->Prop}
end
end L2
namespace L2
section
variable {κ:Type} [DecidableEq κ]
def qr (kvs:List (κ×V)) (k:κ):Option V:=(kvs.find? λkv=>decide (kv.1=k)).map (·.2)
def qc (kvs:List (κ×V)) (k:κ) (v:V):List (κ×V) :=
 if (kvs.any λkv=>decide (kv.1=k))=true then kvs.map (λkv=>if kv.1=k then (kv.1,v) else kv) else kvs++[(k,v)]
theorem zV {k:κ}:qr ([]:List (κ×V)) k=none:=rfl
theorem wa {p:κ×V}{r:List (κ×V)}{k:κ}(e:p.1=k):qr (p::r) k=some p.2:=by simp [qr,dS,e]
theorem uF {p:κ×V}{r:List (κ×V)}{k:κ}(e:¬p.1=k):qr (p::r) k=qr r k:=by simp [qr,dS,e]
theorem wb (k:κ):∀kvs:List (κ×V),(kvs.any λkv=>decide (kv.1=k))=(qr kvs k).isSome
 | []=>rfl
 | p::r=>by
  rw [eO]
  by_cases e:p.1=k
  ·simp only [wa e,decide_eq_true e,Bool.true_or,Option.isSome_some]
  ·rw [uF e,decide_eq_false e,Bool.false_or];exact wb k r
theorem y4 (kvs:List (κ×V)) (k:κ) (v:V):(qc kvs k v).length<=kvs.length+1:=by
 unfold qc
 split
 ·rw [af];omega
 ·rw [ax,b7,oE];omega
theorem y8 {kvs:List (κ×V)}{k:κ}(v:V) (h:qr kvs k=none):qc kvs k v=kvs++[(k,v)]:=by
 unfold qc
 rw [wb,h]
 exact if_neg ⋯
theorem zT.isSome_eq {o:Option V}{u:Option ag}(r:zT o u):o.isSome=u.isSome:=by
 cases o with
 | none=>cases u with
  | none=>rfl
  | some _=>exact (show False from r).elim
 | some _=>cases u with
  | none=>exact (show False from r).elim
  | some _=>rfl
theorem zT.getD {o:Option V}{u:Option ag}{d:V}{d':ag}(r:zT o u) (rd:jA d d'):jA (o.getD d) (u.getD d'):=by
 cases o with
 | none=>cases u with
  | none=>exact rd
  | some _=>exact (show False from r).elim
 | some _=>cases u with
  | none=>exact (show False from r).elim
  | some _=>exact r
theorem KV.val {kvs:List (κ×V)}{vs:List (κ×ag)}(r:KV kvs vs) (k:κ):zT (qr kvs k) (mj vs k):=by
 unfold KV at r
 induction r with
 | nil=>exact eX
 | @cons p q ps qs h t ih =>
  obtain ⟨h1,h2⟩:=h
  by_cases e:p.1=k
  ·have e':q.1=k:=h1.symm.trans e
   have b:mj (q::qs) k=some q.2:=by simp [mj,dS,e']
   rw [wa e,b];exact h2
  ·have e':¬q.1=k:=λz=>e (h1.trans z)
   have b:mj (q::qs) k=mj qs k:=by simp [mj,dS,e']
   rw [uF e,b];exact ih
theorem KV.any {kvs:List (κ×V)}{vs:List (κ×ag)}(r:KV kvs vs) (k:κ):(kvs.any λkv=>decide (kv.1=k))=vs.any λkv=>decide (kv.1=k):=by
 unfold KV at r
 induction r with
 | nil=>rfl
 | cons h t ih=>rw [eO,eO,ih,h.1]
theorem KV.repl {kvs:List (κ×V)}{vs:List (κ×ag)}(r:KV kvs vs) (k:κ) {y:V}{u:ag}(ry:jA y u) :
  KV (kvs.map λkv=>if kv.1=k then (kv.1,y) else kv) (vs.map λkv=>if kv.1=k then (kv.1,u) else kv):=by
 unfold KV at r ⊢
 induction r with
 | nil=>exact .nil
 | @cons p q ps qs h t ih =>
  rw [aN,aN]
  refine .cons ?_ ih
  obtain ⟨h1,h2⟩:=h
  by_cases e:p.1=k
  ·rw [if_pos e,if_pos (h1.symm.trans e)];exact ⟨h1,ry⟩
  ·rw [if_neg e,if_neg (λz=>e (h1.trans z))];exact ⟨h1,h2⟩
theorem KV.put {kvs:List (κ×V)}{vs:List (κ×ag)}(r:KV kvs vs) (k:κ) {y:V}{u:ag}(ry:jA y u):KV (qc kvs k y) (pW vs k u):=by
 unfold qc pW
 rw [r.any k]
 by_cases e:(vs.any λkv=>decide (kv.1=k))=true
 ·rw [if_pos e,if_pos e];exact r.repl k ry
 ·rw [if_neg e,if_neg e];exact cW r ⟨rfl,ry⟩
theorem KV.length {kvs:List (κ×V)}{vs:List (κ×ag)}(r:KV kvs vs):kvs.length=vs.length:=b8 r
end
theorem ke {P:Program}{w:aV}{k:Key}{u:ag}(r:jA (kV k) u):(jw P w).is k u=true:=by
 cases k with
 | inl i=>obtain ⟨t,e⟩:=(show ∃t,u=eE i t from r);subst e;exact Jg P w i t
 | inr x=>obtain ⟨t,e⟩:=(show ∃t,u=nN x t from r);subst e;exact Jd P w x t
theorem wW {P:Program}{w:aV}:∀{ks:List Key}{us:List ag},jx (ks.map kV) us->ItemsAre (jw P w) ks us
 | [],_,r=>by rw [eI] at r;cases r;exact .nil
 | k::ks,_,r=>by
  rw [aN] at r
  cases r with
  | cons h t=>exact .cons (ke h) (wW t)
abbrev KT (H:Hp):List (List Key×V)->List (List Key×Addr×ag)->Prop:=cO λp q=>p.1=q.1/\H q.2.1=some (.tup (p.1.map kV))/\jA p.2 q.2.2
theorem KT.val {H:Hp}{kvs:List (List Key×V)}{xs:List (List Key×Addr×ag)}(r:KT H kvs xs) (k:List Key):zT (qr kvs k) ((oz xs k).map (·.2)):=by
 induction r with
 | nil=>exact eX
 | @cons p q ps qs h t ih =>
  obtain ⟨h1,_,h2⟩:=h
  by_cases e:p.1=k
  ·have e':q.1=k:=h1.symm.trans e
   have b:oz (q::qs) k=some q.2:=by simp [oz,dS,e']
   rw [wa e,b];exact h2
  ·have e':¬q.1=k:=λz=>e (h1.trans z)
   have b:oz (q::qs) k=oz qs k:=by simp [oz,dS,e']
   rw [uF e,b];exact ih
theorem KT.repl {H:Hp}{kvs:List (List Key×V)}{xs:List (List Key×Addr×ag)}(r:KT H kvs xs) (k:List Key) {y:V}{u:ag}(ry:jA y u) :
  KT H (kvs.map λkv=>if kv.1=k then (kv.1,y) else kv) (xs.map (putAt k u)):=by
 induction r with
 | nil=>exact .nil
 | @cons p q ps qs h t ih =>
  rw [aN,aN]
  refine .cons ?_ ih
  obtain ⟨h1,h2,h3⟩:=h
  unfold putAt
  by_cases e:p.1=k
  ·rw [if_pos e,if_pos (h1.symm.trans e)];exact ⟨h1,h2,ry⟩
  ·rw [if_neg e,if_neg (λz=>e (h1.trans z))];exact ⟨h1,h2,h3⟩
theorem KT.put {H:Hp}{kvs:List (List Key×V)}{xs:List (List Key×Addr×ag)}(r:KT H kvs xs) (k:List Key) {b:Addr}{y:V}{u:ag}(hb:H b=some (.tup (k.map kV))) (ry:jA y u) :
  KT H (qc kvs k y) (storedH xs k b u):=by
 have e:(kvs.any λkv=>decide (kv.1=k))=(oz xs k).isSome:=by
  rw [wb,(r.val k).isSome_eq,Option.isSome_map]
 unfold qc storedH
 rw [e]
 by_cases q:(oz xs k).isSome=true
 ·rw [if_pos q,if_pos q];exact r.repl k ry
 ·rw [if_neg q,if_neg q];exact cW r ⟨rfl,hb,ry⟩
theorem KT.keeps {H H':Hp}{kvs:List (List Key×V)}{xs:List (List Key×Addr×ag)}(r:KT H kvs xs) (ht:∀b ys,H b=some (.tup ys)->H' b=some (.tup ys)):KT H' kvs xs :=
 Paired.mapP r λ_ _ z=>⟨z.1,ht _ _ z.2.1,z.2.2⟩
section
variable {P:Program}{w:aV}{H:Hp}{h:Heap}{a:Addr}
theorem Vf {u:HO}(ok:HOk P w H h) (e:Rd H a u):qk P w H h a u:=e.ok ok
theorem yt {kvs:List (Key×V)}(ok:HOk P w H h) (e:Rd H a (.dK kvs)):kvs.length<=sizeLine/\(a == dI)=false/\∃vs,KV kvs vs/\h.DictOf (jw P w) a vs :=
 show qk P w H h a (.dK kvs) from Vf ok e
theorem ZA {kvs:List (Key×V)}(ok:HOk P w H h) (e:H a=some (.dK kvs)):kvs.length<=sizeLine/\(a == dI)=false/\∃vs,KV kvs vs/\h.DictOf (jw P w) a vs:=yt ok (.inl e)
theorem kZ {ks:List Key}(ok:HOk P w H h) (e:H a=some (.tup (ks.map kV))):(iQ (jw P w)).is h ks a:=by
 obtain ⟨_,its,r,o,h1,h2,n,h3⟩:=(show qk P w H h a (.tup (ks.map kV)) from ok a _ e)
 exact ⟨o,its.toArray,n,h1,h2,h3,by simpa using wW r⟩
theorem gy {kvs:List (List Key×V)}(ok:HOk P w H h) (e:Rd H a (.dT kvs)):kvs.length<=sizeLine/\(a == dI)=false /\
  ∃xs,KT H kvs xs/\h.DictOfH (iQ (jw P w)) a xs:=by
 obtain ⟨z,y,xs,r,o,es,ep,h1,h2,h3,h4,h5⟩:=(show qk P w H h a (.dT kvs) from Vf ok e)
 refine ⟨z,y,xs,r,o,es,ep,h1,h2,h3,h4,λx hx=>?_,h5⟩
 have all:∀{l:List (List Key×V)} {m:List (List Key×Addr×ag)},KT H l m->∀x∈m,(iQ (jw P w)).is h x.1 x.2.1:=by
  intro l m q
  induction q with
  | nil=>intro x hx;exact nomatch hx
  | @cons p q ps qs hq t ih =>
   intro x hx
   rcases List.mem_cons.mp hx with e | hx
   ·subst e
    exact kZ ok (by rw [<- hq.1];exact hq.2.1)
   ·exact ih x hx
 exact all r x hx
theorem Uv {kvs:List (List Key×V)}(ok:HOk P w H h) (e:H a=some (.dT kvs)):kvs.length<=sizeLine/\(a == dI)=false /\
  ∃xs,KT H kvs xs/\h.DictOfH (iQ (jw P w)) a xs:=gy ok (.inl e)
end
def qL (H:Hp) (a:Addr) (y:V) (r:Option V):Prop :=
 (∃kvs k,Rd H a (.dK kvs)/\y=kV k/\r=qr kvs k)\/∃kvs k b,Rd H a (.dT kvs)/\y = .ref b/\H b=some (.tup (k.map kV))/\r=qr kvs k
def yZ (H:Hp) (a:Addr) (y v:V) (H':Hp):Prop :=
 (∃kvs k,H a=some (.dK kvs)/\y=kV k/\kvs.length<sizeLine/\H'=upd H a (.dK (qc kvs k v))) \/
 ∃kvs k b,H a=some (.dT kvs)/\y = .ref b/\H b=some (.tup (k.map kV))/\kvs.length<sizeLine/\H'=upd H a (.dT (qc kvs k v))
theorem qL.k {H:Hp}{a:Addr}{kvs:List (Key×V)}{k:Key}(e:H a=some (.dK kvs)):qL H a (kV k) (qr kvs k):=.inl ⟨kvs,k,.inl e,rfl,rfl⟩
theorem yZ.k {H:Hp}{a:Addr}{kvs:List (Key×V)}{k:Key}{v:V}(e:H a=some (.dK kvs)) (hl:kvs.length<sizeLine):yZ H a (kV k) v (upd H a (.dK (qc kvs k v))):=.inl ⟨kvs,k,e,rfl,hl,rfl⟩
section
variable {X:Cx}{pins:List (Addr×Obj)}{σ:St}{H:Hp}{s:Shared}{a:Addr}{y v:V}{u r:ag}{o:Option V}{A:ba}{E:ag->Shared->Prop}
theorem Inv.big (I:Inv X pins σ H s):dI<s.heap.objs.size:=by
 have h:mainGlobals<s.heap.objs.size:=(I.mod.glob.keeps I.bk).lt
 exact Nat.lt_trans ⋯ h
theorem Xz {Q:ag->Shared->Prop}(hu:A.units+1<cLine) (I:Inv X pins σ H s) (g:qL H a y (some v)) (ry:jA y u) (h:∀w' s',Inv X pins σ H s'->jA v w'->Q w' s') :
  ay (aC X.prog X.w) A (lr (.ref a) u) Q E s:=by
 rcases g with ⟨kvs,k,e,ey,l⟩ | ⟨kvs,k,b,e,ey,eb,l⟩
 ·subst ey
  obtain ⟨z,hd,vs,rel,dd⟩:=yt I.hok e
  obtain ⟨w',hw,rw'⟩:=zT.some_of (v:=v) (o:=mj vs k) (by rw [l];exact rel.val k)
  exact wpAny_getItem_of (ke ry) dd.mapOf hw (h w' _ (I.tok _) rw')
 ·subst ey
  cases (show u=b0 b from ry)
  obtain ⟨z,hd,xs,rel,dd⟩:=gy I.hok e
  obtain ⟨w',hw,rw'⟩:=zT.some_of (v:=v) (o:=(oz xs k).map (·.2)) (by rw [l];exact rel.val k)
  obtain ⟨p,hp,hp2⟩:=Option.map_eq_some_iff.mp hw
  refine wpAny_getItem_heap (iD hu) (kZ I.hok eb) dd hp ?_
  rw [hp2]
  exact h w' _ (I.tok _) rw'
theorem kM {h':Heap}{t':Nat}{ob:HO}(I:Inv X pins σ H s) (mu:Mut (H a)) (hs:dJ a s.heap h') (he:∃q,h'.get? a=some q) (new:qk X.prog X.w (upd H a ob) h' a ob) :
  Inv X pins σ (upd H a ob) { s with heap:=h',toks:=t' } :=
 I.write (x:=a) (e:=a) mu (.inl rfl) (λb q hb z=>(hs.2 b hb).trans z) he new
theorem kD {P:Program}{w:aV}{H':Hp}{h':Heap}{kvs:List (Key×V)}{vs:List (Key×ag)}(z:kvs.length<=sizeLine) (hd:(a == dI)=false) (rel:KV kvs vs) (dd:h'.DictOf (jw P w) a vs) :
  qk P w H' h' a (.dK kvs):=⟨z,hd,vs,rel,dd⟩
theorem XE {H':Hp}{Q:Unit->Shared->Prop}(hu:A.units+1<cLine) (I:Inv X pins σ H s) (g:yZ H a y v H') (ry:jA y u) (rv:jA v r) (h:∀s',Inv X pins σ H' s'->Q () s') :
  ay (aC X.prog X.w) A (setItem (.ref a) u r) Q E s:=by
 rcases g with ⟨kvs,k,e,ey,l,eH⟩ | ⟨kvs,k,b,e,ey,eb,l,eH⟩
 ·subst ey eH
  obtain ⟨z,hd,vs,rel,dd⟩:=ZA I.hok e
  have hz:vs.length<=sizeLine:=by rw [<- rel.length];exact z
  have hl:(qc kvs k v).length<=sizeLine:=by have:=y4 kvs k v;omega
  refine wpAny_setItem_pairs (hsz:=hz) (ke ry) dd λh' dd' hs=>h _ ?_
  have he:∃q,h'.get? a=some q:=let ⟨q,_,_,hq,_⟩:=dd';⟨q,hq⟩
  exact kM I (by rw [e];exact eX) hs he (kD hl hd (rel.put k rv) dd')
 ·subst ey eH
  cases (show u=b0 b from ry)
  obtain ⟨z,hd,xs,rel,dd⟩:=Uv I.hok e
  have hz:xs.length<=sizeLine:=by rw [<- b8 rel];exact z
  have hl:(qc kvs k v).length<=sizeLine:=by have:=y4 kvs k v;omega
  refine wpAny_setItem_heap (hsz:=hz) (iD hu) (kZ I.hok eb) dd λh' dd' hs=>h _ ?_
  obtain ⟨q,es,ep,hq,h2,h3,h4,_,h5⟩:=dd'
  refine kM I (by rw [e];exact eX) hs ⟨q,hq⟩ ⟨hl,hd,_,(rel.put k eb rv).keeps λc ys ec=>?_,q,es,ep,hq,h2,h3,h4,h5⟩
  rw [j5 (jh ec e (λz=>nomatch z))]
  exact ec
end
section
variable {X:Cx}{pins:List (Addr×Obj)}{σ:St}{H:Hp}{s:Shared}{a:Addr}{kvs:List (Key×V)}{k:Key}{u:ag}{A:ba}{E:ag->Shared->Prop}
theorem UQ {Q:ag->Shared->Prop}(I:Inv X pins σ H s) (e:Rd H a (.dK kvs)) (h:∀t s',Inv X pins σ H s'->Q (.int kvs.length t) s'):ay (aC X.prog X.w) A (call (.builtin "len") [.ref a]) Q E s:=by
 obtain ⟨z,hd,vs,rel,dd⟩:=yt I.hok e
 refine call_len_dict hd dd (by rw [<- rel.length];rw [bw] at z;omega) ?_
 rw [<- rel.length]
 exact h _ _ (I.tok _)
end
def UW (i:Expr):Prop:=∀ov iv,lY i false ov iv=operate [ov,iv] (lr ov iv)
theorem YR {prog:Program}{w:aV}{A:ba}{E:ag->Shared->Prop}{s:Shared}{env:Env}{value slice:Expr}{pos:Pos}{T id:String}{Q:ag->Shared->Prop}
  (hl:oZ (.type T) "__getitem__" = pure (some (.builtin id))) (hs:UW slice)
  (h:ay (aC prog w) A (eval value env) (λo s₁=>ay (aC prog w) A (eval slice env) (λi s₂=>s₂.TypeIs o T/\ay (aC prog w) A (lr o i) Q E s₂) E s₁) E s) :
  ay (aC prog w) A (eval (.Subscript value slice pos) env) Q E s:=by
 refine lu (aX h (λo s₁ h₁=>aX h₁ (λi s₂ h₂=>?_) λ_ _ x=>x) λ_ _ x=>x)
 obtain ⟨hT,h₂⟩:=h₂
 unfold fP
 refine ae ?_
 rw [getitemInPython_of_ne hT.not_modules]
 refine ae (wpAny_specialOf hT hl ?_)
 have fin:ay (aC prog w) A (lY slice false o i) (λr s₃=>ay (aC prog w) A (letTemporaryGo value o r >>= λ_=>pure r) Q E s₃) E s₂:=by
  rw [hs o i]
  exact wpAny_operating (aX h₂ (λr s₃ h₃=>ae (wpAny_letTemporaryGo (wpAny_pure h₃))) λ_ _ x=>x)
 first
  | exact wpAny_pure (ae fin)
  | exact ae (wpAny_pure (ae fin))
  | exact ae fin
theorem gZ {X:Cx}{pins:List (Addr×Obj)}{σ:St}{H:Hp}{s:Shared}{a:Addr}{y:V}{o:Option V}(I:Inv X pins σ H s) (g:qL H a y o):s.TypeIs (.ref a) "dict":=by
 rcases g with ⟨kvs,k,e,_,_⟩ | ⟨kvs,k,b,e,_,_,_⟩
 ·obtain ⟨_,_,vs,_,dd⟩:=yt I.hok e
  exact dd.typeIs
 ·obtain ⟨_,_,xs,_,dd⟩:=gy I.hok e
  exact dd.typeIs
def UM (td ty:TE):TE:=λσ H Q=>td σ H λx H1=>ty σ H1 λy H2=>∃a v,x = .ref a/\qL H2 a y (some v)/\Q v H2
def Ur (td ty tv:TE):TS:=λD σ H=>tv σ H λv H1=>td σ H1 λx H2=>ty σ H2 λy H3=>∃a H4,x = .ref a/\yZ H3 a y v H4/\D.nx σ H4
section
variable {X:Cx}{o i e value:Expr}{pos pos' tpos:Pos}{td ty tv:TE}
theorem jB (hu:X.A.units+1<cLine) (ho:PE X o td) (hi:PE X i ty) (hs:UW i):PE X (.Subscript o i pos) (UM td ty):=by
 intro pins s σ H Q I h
 refine YR PySem.F.slot_dict_getitem.lookup hs (thn (ho pins s σ H _ I h) λu s1 ⟨x,H1,I1,rx,q1⟩=>thn (hi pins s1 σ H1 _ I1 q1) λiv s2 ⟨y,H2,I2,ry,a,v,ex,g,q2⟩=>?_)
 subst ex
 obtain rfl:u=b0 a:=rx
 exact ⟨gZ I2 g,Xz hu I2 g ry λw' s3 I3 rw'=>⟨v,H2,I3,rw',q2⟩⟩
theorem xx (hu:X.A.units+1<cLine) (ho:PE X o td) (hi:PE X i ty) (hv:PE X value tv) (hs:ij value (some (.Subscript o i pos')) pos.line X.env=pure false) :
  PS X (.Assign [.Subscript o i pos'] value pos) (Ur td ty tv):=by
 intro pins s σ H D I h
 refine wpAny_Assign_Subscript (thn (hv pins s σ H _ I h) λr s1 ⟨v,H1,I1,rv,q1⟩=>thn (ho pins s1 σ H1 _ I1 q1) λu s2 ⟨x,H2,I2,rx,q2⟩=>thn (hi pins s2 σ H2 _ I2 q2) λiv s3 ⟨y,H3,I3,ry,a,H4,ex,g,q3⟩=>?_) hs
 subst ex
 obtain rfl:u=b0 a:=rx
 exact XE hu I3 g ry rv λs4 I4=>⟨σ,H4,I4,q3⟩
end
theorem Jl {P:Program}{w:aV}{H:Hp}(h:Heap) (hb:dI<h.objs.size):qk P w H (h.push { cls:=.type "dict",data:=.dict #[] }) h.objs.size (.dK []) :=
 ⟨aJ _,beq_eq_false_iff_ne.mpr (c5 (aA hb)),[],.nil,oF h⟩
def VI:TE:=λ_ H Q=>∀p,H p=none->Q (.ref p) (upd H p (.dK []))
section
variable {X:Cx}{pos:Pos}
theorem vC:PE X (.Dict [] [] pos) VI:=λpins s σ H Q I h =>
 wpAny_Dict_empty ⟨.ref s.heap.objs.size,_,I.laid (a:=s.heap.objs.size) (o:=.dK []) (t':=s.toks) (λ_ _ q=>ah _ q) (ao _) (Jl s.heap I.big),rfl,h _ (I.hok.fresh (ao _))⟩
end
def Qc:List (TE×TE)->St->Hp->(List (V×V)->Hp->Prop)->Prop
 | [],_,H,Q=>Q [] H
 | (tk,tv)::r,σ,H,Q=>tk σ H λx H1=>tv σ H1 λy H2=>Qc r σ H2 λps H3=>Q ((x,y)::ps) H3
abbrev VV:List (V×V)->List (ag×ag)->Prop:=cO λp q=>jA p.1 q.1/\jA p.2 q.2
def PPs (X:Cx) (pos:Pos) (keys:List (Option Expr)) (values:List Expr) (trs:List (TE×TE)):Prop :=
 ∀(pins:List (Addr×Obj)) (s:Shared) (σ:St) (H:Hp) (Q:List (V×V)->Hp->Prop),Inv X pins σ H s->Qc trs σ H Q ->
  ay (aC X.prog X.w) X.A (evalPairs (pairTrees keys values X.env pos)) (λvs s'=>∃ps H',Inv X pins σ H' s'/\VV ps vs/\Q ps H') X.xe s
theorem Yd {X:Cx}{pos:Pos}:PPs X pos [] [] []:=λpins s σ H Q I h=>pairTrees_nil_walk ⟨[],H,I,.nil,h⟩
theorem uD {X:Cx}{pos:Pos}{k v:Expr}{ks:List (Option Expr)}{vs:List Expr}{tk tv:TE}{trs:List (TE×TE)}(hk:PE X k tk) (hv:PE X v tv) (hr:PPs X pos ks vs trs) :
  PPs X pos (some k::ks) (v::vs) ((tk,tv)::trs):=λpins s σ H Q I h =>
 pairTrees_cons_walk (thn (hk pins s σ H _ I h) λu s1 ⟨x,H1,I1,rx,q1⟩=>thn (hv pins s1 σ H1 _ I1 q1) λw2 s2 ⟨y,H2,I2,ry,q2⟩ =>
  thn (hr pins s2 σ H2 _ I2 q2) λws s3 ⟨ps,H3,I3,rel,q3⟩=>⟨(x,y)::ps,H3,I3,.cons ⟨rx,ry⟩ rel,q3⟩)
def qM (kvs more:List (Key×V)):List (Key×V):=more.foldl (λacc kv=>qc acc kv.1 kv.2) kvs
theorem KV.merge:∀{more:List (Key×V)}{rs:List (Key×ag)}{kvs:List (Key×V)}{vs:List (Key×ag)},KV more rs->KV kvs vs->KV (qM kvs more) (merged vs rs):=by
 intro more rs kvs vs r
 unfold KV at r
 induction r generalizing kvs vs with
 | nil=>intro q;exact q
 | @cons p q ps qs h t ih =>
  intro r0
  have e:KV (qc kvs p.1 p.2) (pW vs q.1 q.2):=by
   have:=r0.put p.1 h.2
   rw [<- h.1];exact this
  exact ih e
theorem zj:∀(more kvs:List (Key×V)),(qM kvs more).length<=kvs.length+more.length
 | [],kvs=>by show kvs.length<=kvs.length+0;omega
 | p::r,kvs=>by
  have h1:=zj r (qc kvs p.1 p.2)
  have h2:=y4 kvs p.1 p.2
  show (qM (qc kvs p.1 p.2) r).length<=_
  rw [b7];omega
theorem uA {P:Program}{w:aV}:∀{kvs:List (Key×V)}{ws:List (ag×ag)},VV (kvs.map λkv=>(kV kv.1,kv.2)) ws->∃rs,Carries (jw P w) ws rs/\KV kvs rs
 | [],_,r=>by rw [eI] at r;cases r;exact ⟨[],eX,.nil⟩
 | p::kvs,_,r=>by
  rw [aN] at r
  cases r with
  | @cons a b as bs h t =>
   obtain ⟨rs,c,q⟩:=uA (P:=P) (w:=w) t
   obtain ⟨b1,b2⟩:=b
   exact ⟨(p.1,b2)::rs,⟨ke h.1,rfl,c⟩,.cons ⟨rfl,h.2⟩ q⟩
def Uz (trs:List (TE×TE)):TE:=λσ H Q=>∀p,H p=none->Qc trs σ (upd H p (.dK [])) λps H2=>H2 p=some (.dK [])/\∃kvs:List (Key×V),ps=kvs.map (λkv=>(kV kv.1,kv.2))/\kvs.length<=15/\Q (.ref p) (upd H2 p (.dK (qM [] kvs)))
theorem Yx {X:Cx}{pos:Pos}{keys:List (Option Expr)}{values:List Expr}{trs:List (TE×TE)}(h:PPs X pos keys values trs) (hall:keys.all (·.isSome)=true) (hl:keys.length=values.length) (h0:keys≠[])
  (h15:keys.length<=15):PE X (.Dict keys values pos) (Uz trs):=by
 intro pins s σ H Q I q
 have hn:=I.hok.fresh (ao s.heap.objs.size)
 have I1:=I.laid (a:=s.heap.objs.size) (o:=.dK []) (h':=s.heap.push { cls:=.type "dict",data:=.dict #[] }) (t':=s.toks) (λ_ _ q=>ah _ q) (ao _) (Jl s.heap I.big)
 refine wpAny_Dict_walk (knd:=jw X.prog X.w) hall hl h0 h15 (thn (h pins _ σ _ _ I1 (q _ hn)) λws s2 ⟨ps,H2,I2,rel,e,kvs,ep,lk,q2⟩=>?_)
 subst ep
 obtain ⟨rs,c,rk⟩:=uA (P:=X.prog) (w:=X.w) rel
 obtain ⟨z,hd,vs0,r0,dd⟩:=ZA I2.hok e
 cases r0
 refine ⟨rs,c,dd,λh' dd' hs=>⟨.ref s.heap.objs.size,_,?_,rfl,q2⟩⟩
 have hz:(qM [] kvs).length<=sizeLine:=by
  have h1:=zj kvs []
  rw [oE] at h1
  rw [bw];omega
 have he:∃q,h'.get? s.heap.objs.size=some q:=let ⟨q,_,_,hq,_⟩:=dd';⟨q,hq⟩
 exact kM I2 (by rw [e];exact eX) hs he (kD hz hd (rk.merge .nil) dd')
structure M2 (X:Cx) (o:Expr) (m:Str) (apos:Pos) (e f:Expr) (cpos:Pos):Prop where
 base:eN o m X.env (eval o X.env)=eval o X.env
 few:((ck cpos (aH [e,f] X.env)).all (λx=>!x.1) && (iq cpos (ee [] X.env)).all (λx=>x.1.isSome)
  && decide (([e,f]:List Expr).length+([]:List lq).length+(if ([]:List lq).isEmpty then 0 else 1)<30))=true
 line:(apos.endLine == cpos.line)=true
 trees:ck cpos (aH [e,f] X.env)=[(false,eval e X.env),(false,eval f X.env)]
def IsD (H:Hp) (a:Addr):Prop:=(∃kvs,Rd H a (.dK kvs))\/∃kvs,Rd H a (.dT kvs)
theorem VG {X:Cx}{pins:List (Addr×Obj)}{σ:St}{H:Hp}{s:Shared}{a:Addr}(I:Inv X pins σ H s) (d:IsD H a) :
  s.TypeIs (.ref a) "dict" /\ (∀b,b0 a = .ref b->∃ob,s.heap.get? b=some ob/\ob.dict=none)/\(a == dI)=false:=by
 rcases d with ⟨kvs,e⟩ | ⟨kvs,e⟩
 ·obtain ⟨_,hd,vs,_,dd⟩:=yt I.hok e
  refine ⟨dd.typeIs,λb q=>?_,hd⟩
  cases q
  obtain ⟨ob,_,_,h1,h2,_⟩:=dd
  exact ⟨ob,h1,h2.2.1⟩
 ·obtain ⟨_,hd,xs,_,dd⟩:=gy I.hok e
  refine ⟨dd.typeIs,λb q=>?_,hd⟩
  cases q
  obtain ⟨ob,_,_,h1,h2,_⟩:=dd
  exact ⟨ob,h1,h2.2.1⟩
section
variable {X:Cx}{pins:List (Addr×Obj)}{σ:St}{H:Hp}{s:Shared}{a:Addr}{y d:V}{u r:ag}{o:Option V}{A:ba}{E:ag->Shared->Prop}
theorem VE {Q:ag->Shared->Prop}(hu:A.units+1<cLine) (I:Inv X pins σ H s) (g:qL H a y o) (ry:jA y u) (rd:jA d r) (h:∀w' s',Inv X pins σ H s'->jA (o.getD d) w'->Q w' s') :
  ay (aC X.prog X.w) A (call (.builtin "dict.get") [.ref a,u,r]) Q E s:=by
 rcases g with ⟨kvs,k,e,ey,l⟩ | ⟨kvs,k,b,e,ey,eb,l⟩
 ·subst ey
  obtain ⟨z,hd,vs,rel,dd⟩:=yt I.hok e
  refine call_meetsIn fM dd.typeIs lH (iZ _ _ _) (meets_dict_get_default (jw X.prog X.w) a (ke ry) hd r) ⟨_,dd.mapOf,h _ _ (I.tok _) ?_⟩
  rw [l]
  exact (rel.val k).getD rd
 ·subst ey
  cases (show u=b0 b from ry)
  obtain ⟨z,hd,xs,rel,dd⟩:=gy I.hok e
  refine call_meetsIn fM dd.typeIs lH (iZ _ _ _) (meetsH_dict_get_default (iQ (jw X.prog X.w)) a b hd r) ⟨iD hu,k,xs,kZ I.hok eb,dd,h _ _ (I.tok _) ?_⟩
  rw [l]
  exact (rel.val k).getD rd
end
def Vq (td ty tx:TE):TE:=λσ H Q=>td σ H λx H1=>∃a,x = .ref a/\IsD H1 a/\ty σ H1 λy H2=>tx σ H2 λz H3=>∃o,qL H3 a y o/\Q (o.getD z) H3
section
variable {X:Cx}{o e f:Expr}{apos cpos:Pos}{td ty tx:TE}
theorem JI (hu:X.A.units+1<cLine) (ho:PE X o td) (he:PE X e ty) (hf:PE X f tx) (m:M2 X o "get" apos e f cpos):PE X (.Call (.Attribute o "get" apos) [e,f] [] cpos) (Vq td ty tx):=by
 intro pins s σ H Q I h
 refine wpAny_Call_method m.base m.few m.line PySem.F.plainAttrs_dict fM PySem.F.type_dict_get (thn (ho pins s σ H _ I h) λu s1 ⟨x,H1,I1,rx,a,ex,d,q1⟩=>?_)
 subst ex
 obtain rfl:u=b0 a:=rx
 obtain ⟨t1,t2,_⟩:=VG I1 d
 refine ⟨t1,t2,?_⟩
 rw [m.trees]
 refine ly rfl (fU (ir (thn (he pins s1 σ H1 _ I1 q1) λiv s2 ⟨y,H2,I2,ry,q2⟩ =>
  ir (thn (hf pins s2 σ H2 _ I2 q2) λfv s3 ⟨z,H3,I3,rz,ov,g,q3⟩=>mZ ?_))))
 exact VE hu I3 g ry rz λw' s4 I4 rw'=>⟨_,H3,I4,rw',q3⟩
end
section
variable {X:Cx}{pins:List (Addr×Obj)}{σ:St}{H:Hp}{s:Shared}{a:Addr}{kvs:List (Key×V)}{A:ba}{E:ag->Shared->Prop}
end
section
variable {X:Cx}{pins:List (Addr×Obj)}{σ:St}{H:Hp}{s:Shared}{a:Addr}{y:V}{u:ag}{A:ba}{E:ag->Shared->Prop}
end
end L2
namespace Att
open PySem PySem.W PySem.Calls PyProof.Rows
section
variable {prog:Program}{w:aV}{A:ba}{E:ag->Shared->Prop}{s:Shared}{K:Frag}
end
end Att
namespace L2
end L2
namespace L2
end L2
namespace L2
section
variable {P:Program}{w:aV}{K:aj}{mg:Str->Option ag}{base:Heap}
end
section
variable {X:Cx}
end
section
variable {κ:Type} [DecidableEq κ]
theorem vh:∀{l:List κ}{k:κ},l.Nodup->¬k∈l->(l++[k]).Nodup
 | [],k,_,_=>by simp
 | a::r,k,h,hk=>by
  obtain ⟨h1,h2⟩:=List.nodup_cons.mp h
  show (a::(r++[k])).Nodup
  refine List.nodup_cons.mpr ⟨λm=>?_,vh h2 λm=>hk (List.mem_cons.mpr (lA m))⟩
  rcases List.mem_append.mp m with q | q
  ·exact h1 q
  ·exact hk (List.mem_cons.mpr (aU (List.mem_singleton.mp q).symm))
end
end L2
end
section
namespace L2
open PySem.W
section
variable {prog:Program}{w:aV}{A:ba}{E:ag->Shared->Prop}{s:Shared}
theorem JC {its:List ag}{κ:ph}{lt:Nat->Nat->Bool}{G:List Nat->Prop}{Q:ag->Shared->Prop}(h64:its.length<64)
  (hk:2<=its.length->∀h',(∀b o,s.heap.get? b=some o->h'.get? b=some o)->∀Q':ph->Shared->Prop,Q' κ { s with heap:=h' }->ay (aC prog w) A.in1.in1 (keyKind' its.toArray) Q' (λ_ _=>False) { s with heap:=h' })
  (hc:∀h',(∀b o,s.heap.get? b=some o->h'.get? b=some o)->∀i j,i<its.length->j<its.length->∀Q':Bool->Shared->Prop,Q' (lt i j) { s with heap:=h' } ->
   ay (aC prog w) A.in1.in1 (keyLt' κ (its.getD i aT) (its.getD j aT)) Q' (λ_ _=>False) { s with heap:=h' })
  (hs:2<=its.length->qE lt its.length (rn its.length) λp=>jZ its.length p/\G p.toList) (h1:its.length<2->G (aO its.length))
  (h:∀(ix:List Nat) (h':Heap) (n:Nat),ix.Perm (aO its.length)->G ix->(∀b o,s.heap.get? b=some o->h'.get? b=some o) ->
   h'.get? (s.heap.objs.size)=some (bc "list" (ix.map λi=>its.getD i aT).toArray n)->Q (.ref (s.heap.objs.size)) { s with heap:=h' }) :
  ay (aC prog w) A.in1 (oJ its >>= λl=>eF [l] (call (.builtin "list.sort") [l] []) >>= λ_=>ret l) (λfin s'=>∃v,fin = .done (.ret v)/\Q v s') E s:=by
 refine ae (eR ?_ (by rw [bw];omega))
 have ho:(s.heap.push (bc "list" its.toArray 0)).get? (s.heap.objs.size)=some (bc "list" its.toArray 0):=az _ rfl
 have keep:∀b o,s.heap.get? b=some o->(s.heap.push (bc "list" its.toArray 0)).get? b=some o:=λb o q=>by
  exact ah _ q
 show ay _ _ _ _ _ { s with heap:=s.heap.push (bc "list" its.toArray 0) }
 refine ae (bG (cY m7 ⟨_,ho,rfl⟩ lL ?body (pq _)))
 case body =>
  generalize hh0:s.heap.push (bc "list" its.toArray 0)=h0 at ho keep
  generalize ha:s.heap.objs.size=a at ho h
  have aNew:∀b o,s.heap.get? b=some o->b≠a:=λb o q=>by have:=ar q;rw [<- ha];exact aA this
  show ay (aC prog w) A.in1.in1 (dY.«list.sort» ⟨[.ref a],[]⟩) _ _ { s with heap:=h0 }
  rw [oA]
  have hal:a<h0.objs.size:=ar ho
  refine ae (lE ho rfl ?_)
  refine ae (cJ ho rfl ?_ (by rw [aw,bw];omega) (aJ _))
  obtain ⟨e1,ho1⟩:∃e1,(h0.update a (aR λ_=>(#[]:Array ag))).get? a=some (bc "list" #[] e1):=⟨_,dR ho (λ_=>#[])⟩
  refine ae (ef ho1 rfl ?_)
  refine ae (iA ?_ (by show its.length<=_;rw [bw];omega))
  refine ae (eR ?_ (aJ _))
  refine bG ?_
  have ho6:(((h0.update a (aR λ_=>(#[]:Array ag))).push (bc "tuple" its.toArray 0)).push (bc "list" #[] 0)).get? a=some (bc "list" #[] e1):=by
   rw [cz _ _ _ (by rw [mM,dz];exact aA (bC hal)),cz _ _ _ (by rw [dz];exact aA hal)]
   exact ho1
  have keep6:∀b o,s.heap.get? b=some o->(((h0.update a (aR λ_=>(#[]:Array ag))).push (bc "tuple" its.toArray 0)).push (bc "list" #[] 0)).get? b=some o:=λb o q =>
   ah _ (ah _ ((bR _ _ _ _ (aNew b o q)).trans (keep b o q)))
  show ay (aC prog w) A.in1.in1 _ _ _ { s with heap:=((h0.update a (aR λ_=>(#[]:Array ag))).push (bc "tuple" its.toArray 0)).push (bc "list" #[] 0) }
  generalize ((h0.update a (aR λ_=>(#[]:Array ag))).push (bc "tuple" its.toArray 0)).push (bc "list" #[] 0)=h6 at ho6 keep6
  dsimp only
  have fin:∀(ix:List Nat),ix.Perm (aO its.length)->G ix->∀out:Array ag,out=(ix.map λi=>its.getD i aT).toArray ->
    ∃v,pw (Flow.ret aT) = .done (.ret v)/\ay (aC prog w) A.in1 (do let _ <- pure v;ret (b0 a)) (λfin s'=>∃v,fin = .done (.ret v)/\Q v s') E { s with heap:=h6.update a (aR λ_=>out) }:=λix hp hg out ho'=>by
   refine ⟨_,rfl,ae (wpAny_pure (wpAny_pure ⟨_,rfl,?_⟩))⟩
   subst ho'
   exact h ix _ _ hp hg (λb o q=>(bR _ _ _ _ (aNew b o q)).trans (keep6 b o q)) (dR ho6 λ_=>_)
  by_cases h2:its.toArray.size<2
  ·rw [if_pos h2,if_pos h2]
   refine ae (wpAny_pure ?_)
   rw [lM]
   refine ae (wpAny_pure ?_)
   dsimp only
   refine ae (ef ho6 rfl ?_)
   rw [yY]
   refine ae (cJ ho6 rfl ?_ (aJ _) (by rw [aw,bw];omega))
   simp only [bne_self_eq_false,c0,if_false]
   rw [aw] at h2
   exact wpAny_pure (fin _ (m8 _) (h1 h2) _ (by rw [yO]))
  ·rw [if_neg h2,if_neg h2]
   rw [aw] at h2
   refine ae (aX (hk ∅ h6 keep6 (λκ' s'=>κ'=κ/\s'={ s with heap:=h6 }) ⟨rfl,rfl⟩) (λκ' s' q=>?_) λ_ _ x=>x.elim)
   obtain ⟨rfl,rfl⟩:=q
   refine ae (aX (kat_run (ks:=its) (vs:=its) (κ:=κ') (G:=λp s'=>(jZ its.length p/\G p.toList)/\s'={ s with heap:=h6 }) (Q:=λst' s'=>∃p:Array Nat,arrOf st'=p.map (rp (its.toArray.zip its.toArray))/\px st'=none/\(jZ its.length p/\G p.toList)/\s'={ s with heap:=h6 })
    rfl ∅ h64 (λp st' s' a1 a2 a3 a4=>⟨p,a2,a3,a4⟩) (qE.wp (I:=λs'=>s'={ s with heap:=h6 }) (λi j C s' hi hj hI hC=>?_) (λp s' hp hI=>⟨hp,hI⟩) (hs ∅) rfl)) ?_ λ_ _ e=>e)
   ·subst hI
    exact hc h6 keep6 i j hi hj C (hC _ rfl)
   ·rintro ⟨⟨⟩,st'⟩ s' ⟨p,har,hf,⟨hP,hG⟩,rfl⟩
    dsimp only
    have hout:=rA (ks:=its) (vs:=its) rfl har
    have hz:(nj (p.toList.map λi=>its.getD i aT)).size=its.length:=by rw [aw,af,bQ,hP.size]
    rw [hout]
    refine ae (ef ho6 rfl ?_)
    refine ae (cJ ho6 rfl ?_ (aJ _) (by rw [hz,bw];omega))
    rw [hf]
    simp only [bne_self_eq_false,c0,if_false]
    exact wpAny_pure (fin p.toList (by have:=Array.perm_iff_toList_perm.mp hP;simpa using this) hG _ rfl)
theorem JX {v:ag}{Q:ag->Shared->Prop}(hcol:ay (aC prog w) A.in1 (collect v) (λits s1=>ay (aC prog w) A.in1 (oJ its >>= λl=>eF [l] (call (.builtin "list.sort") [l] []) >>= λ_=>ret l) (λfin s'=>∃v,fin = .done (.ret v)/\Q v s') E s1) E s) :
  ay (aC prog w) A (call (.builtin "sorted") [v]) Q E s:=by
 refine iG oq nh ni (args_sorted1 _) ?_
 unfold dY.«sorted»
 refine ae (m:=pj "sorted" 1 1 _) (wpAny_pure ?_)
 exact ae hcol
end
section
variable {X:Cx}
theorem Inv.laidN {pins:List (Addr×Obj)}{σ:St}{H:Hp}{s:Shared}{h':Heap}{a:Addr}{o:HO}{t':Nat}(I:Inv X pins σ H s) (k:∀b u,s.heap.get? b=some u->h'.get? b=some u) (hn:s.heap.get? a=none) (new:H a=none->qk X.prog X.w (upd H a o) h' a o):H a=none/\Inv X pins σ (upd H a o) { s with heap:=h',toks:=t' }:=by
 have hH:H a=none:=by
  cases q:H a with
  | none=>rfl
  | some u =>
   obtain ⟨ob,e⟩:=uR (I.hok a u q)
   rw [hn] at e
   cases e
 have ne:∀{b u},s.heap.get? b=some u->b≠a:=λe z=>by rw [z,hn] at e;cases e
 refine ⟨hH,I.un ⟨λb u q _ _ _=>k b u q,λb u q _ _ _=>⟨u.slots,k b u q⟩,λb u q n _=>by rw [j5 (ne q)];exact n,λb u q _=>⟨u,k b u q⟩,λb xs q=>by rw [j5 (j1 q hH)];exact q,λb u xs q=>by rw [j5 (j1 q hH)];exact q,λb ps q=>⟨#[],by rw [j5 (j1 q hH),q];simp⟩⟩ λb u e=>?_⟩
 by_cases hb:b=a
 ·subst hb;rw [j4] at e;cases e;exact new hH
 ·rw [j5 hb] at e
  exact (I.hok b u e).stay (λc v _ q=>k c v q) (λc q=>by rw [j5 (j1 q hH)];exact q) λc xs q=>by rw [j5 (j1 q hH)];exact q
theorem kC (K:aj) (hca:X.calm=true) (hK:X.K=K:=by rfl):qu X (.builtin "sorted") (λxs H Q=>∃(p:Addr) (kvs:List (Key×V)) (ns:List Int),xs=[.ref p]/\H p=some (.dK kvs)/\kvs.map (·.1)=ns.map du/\ns.length<64 /\
  ∀(l:Addr) H' (ns':List Int),H l=none->H' l=some (.lst (ns'.map V.int))->jm H H'->ns'.Perm ns->ns'.Pairwise (· <= ·)->Q (.ref l) H'):=by
 subst hK
 intro pins s σ H xs us Q I r h
 obtain ⟨p,kvs,ns,rfl,hp0,hks,h64,k⟩:=h
 obtain ⟨u,rfl,ru⟩:=xU r
 cases ru
 obtain ⟨hz,lo,vs,kv,dd⟩:=ZA I.hok hp0
 obtain ⟨ep,hat⟩:=dd.dictAt
 have hvl:vs.length=ns.length:=by
  have e1:kvs.length=vs.length:=b8 kv
  have e2:=congrArg lX hks
  rw [af,af] at e2
  omega
 refine JX (kdu_collect (kdl_dict (knd:=jw X.prog X.w) (kvs:=vs) (ep:=ep) lo) (I.ok.hd hca) hat (cU (jc ∅)) λh1 tk acc hk1 hacc=>?_)
 have hal:acc.toList.length=ns.length:=by rw [bQ,hacc.1,hvl]
 have item:∀i,i<acc.toList.length->∃t,acc.toList.getD i aT = .int (ns.getD i 0) t:=λi hi=>by
  have hi2:i<acc.size:=by rw [bQ] at hi;exact hi
  obtain ⟨key,x,hx,his⟩:=hacc.2 i acc[i] (d9 hi2)
  have hi3:i<kvs.length:=by
   have e1:kvs.length=vs.length:=b8 kv
   omega
  obtain ⟨q,hq,e1,_⟩:=Paired.get kv (aa hi3)
  rw [hx] at hq
  cases hq
  have e2:(kvs.map (·.1))[i]? = some key:=by rw [au,aa hi3];exact congrArg some e1
  have hin:i<ns.length:=∅
  rw [hks,au,aa hin] at e2
  cases e2
  obtain ⟨t,et⟩:=fm his
  refine ⟨t,?_⟩
  rw [ak,lR,d9 hi2,et,ak,aa hin]
  rfl
 generalize acc.toList=its at hal item
 refine JC (s:={ s with heap:=h1,toks:=tk }) (κ:=oneType') (lt:=ltK Yk λi=>ns.getD i 0) (G:=λix=>(ix.map λi=>ns.getD i 0).Pairwise Yk.kle) ∅ (λh2 h' hk' Q' q=>?_) (λh' hk' i j hi hj Q' q=>?_) (λh2=>?_) (λh1=>?_) λix h' n hp hg hk' hn=>?_
 ·refine kas_kind (T:=.type "int") h2 (λv hv=>?_) rfl rfl q
  obtain ⟨i,hi,rfl⟩:=List.mem_iff_getElem.mp hv
  obtain ⟨t,e1⟩:=item i hi
  have e3:its[i] = .int (ns.getD i 0) t:=by rw [<- e1];simp [hi]
  rw [e3]
  exact pQ rfl
 ·obtain ⟨t,e1⟩:=item i hi
  obtain ⟨u,e2⟩:=item j hj
  rw [e1,e2]
  exact kat_lt_int q
 ·exact uC ∅ λp' hP hS=>⟨hP,hS.pairwise hP.size⟩
 ·have hcase:its.length=0\/its.length=1:=∅
  rcases hcase with z | z
  ·rw [z];exact fC
  ·rw [z];exact ff _ _
 ·have hn0:s.heap.get? h1.objs.size=none:=by
   cases q:s.heap.get? h1.objs.size with
   | none=>rfl
   | some u=>exact absurd (ar (hk1 _ _ q)) (c3 _)
  have hv:jx ((ix.map λi=>ns.getD i 0).map V.int) (ix.map λi=>its.getD i aT):=by
   have hb:∀i∈ix,i<its.length:=λi hi=>by have:=hp.mem_iff.mp hi;simpa using this
   clear hp hg hn
   induction ix with
   | nil=>exact .nil
   | cons i ix ih =>
    obtain ⟨t,e⟩:=item i (hb i aG)
    exact .cons ⟨t,e⟩ (ih λj hj=>hb j (aD _ hj))
  have hns:((aO its.length).map λi=>ns.getD i 0)=ns:=by
   apply iY
   ·simp [hal]
   ·intro i h1 h2
    simp [h2]
  have hsz:((ix.map λi=>ns.getD i 0).map V.int).length<=sizeLine:=by
   rw [af,af,hp.length_eq,bH]
   exact aF (by omega:its.length<=1000) ⋯
  obtain ⟨hf,J⟩:=Inv.laidN (o:=.lst ((ix.map λi=>ns.getD i 0).map V.int)) (t':=tk) I (λb o e=>hk' b o (hk1 b o e)) hn0 λ_=>⟨hsz,_,n,hv,hn⟩
  refine ⟨.ref _,upd H h1.objs.size (.lst ((ix.map λi=>ns.getD i 0).map V.int)),J,rfl,k _ _ _ hf j4 (jm.new hf) ?_ ?_⟩
  ·have:=hp.map λi=>ns.getD i 0
   rw [hns] at this
   exact this
  ·exact List.Pairwise.imp (R:=Yk.kle) (λ{a b} z=>ZT z) hg
end
end L2
end
section
namespace L2
open PySem.W
theorem Inv.freeze {X:Cx}{pins:List (Addr×Obj)}{σ:St}{H:Hp}{s:Shared}{a:Addr}{o:Obj}{kvs:List (Key×V)}(I:Inv X pins σ H s) (e:H a=some (.dK kvs)) (ho:s.heap.get? a=some o):Inv X pins σ (upd H a (.frz o (.dK kvs))) s:=by
 refine I.un (t':=s.toks) ⟨λb u q _ _ _=>q,λb u q _ _ _=>⟨u.slots,q⟩,λb u q n _=>?_,λb u q _=>⟨u,q⟩,λb xs q=>?_,λb u xs q=>?_,λb ps q=>⟨#[],?_⟩⟩ λb u q=>?_
 ·rw [j5 (λz=>by rw [z,e] at n;cases n)];exact n
 ·rw [j5 (jh q e (by intro z;cases z))];exact q
 ·rw [j5 (jh q e (by intro z;cases z))];exact q
 ·rw [j5 (jh q e (by intro z;cases z)),q];simp
 ·by_cases hb:b=a
  ·subst hb
   rw [j4] at q
   cases q
   exact ⟨ho,I.hok _ _ e⟩
  ·rw [j5 hb] at q
   exact (I.hok b u q).stay (λc v _ q=>q) (λc q=>by rw [j5 (jh q e (by intro z;cases z))];exact q) λc xs q=>by rw [j5 (jh q e (by intro z;cases z))];exact q
def Itd (a:Addr) (o:Obj) (kvs:List (Key×V)):It :=
 ⟨λi H=>H a=some (.frz o (.dK kvs))/\i<kvs.length,λi H x H'=>H'=H/\∃q,kvs[i]? = some q/\x=kV q.1,λi H=>H a=some (.frz o (.dK kvs))/\kvs.length<=i⟩
theorem relK {P:Program}{w:aV}{k:Key}{v:ag}(h:(jw P w).is k v=true):jA (kV k) v:=by
 cases k with
 | inl i=>exact fm h
 | inr x=>exact mm h
theorem Z1 {P:Program}{w:aV}{K:aj}{tg:Expr}{a it:Addr}{o:Obj}{kvs:List (Key×V)}{vs:List (Key×ag)}{ep:Nat}(kv:KV kvs vs) (HD:∀h:Heap,h.get? a=some o->h.DictAt (jw P w) a vs ep):Turn P w K tg (Itd a o kvs) [it] it (λi h=>h.IsKeyIter it a i vs.length ep) where
 mem:=by simp
 obj:=λi h st b hb=>by
  have e:b=it:=by simpa using hb
  subst e
  obtain ⟨o,e,c,d⟩:=st
  exact ⟨o,e,λv z=>by rw [d] at z;cases z⟩
 keep:=λi h h' st k=>st.at λo e=>k it (by simp) o e
 item:=by
  intro X hP hw hK hc i pins s σ H E I hf st hg
  subst hP hw hK
  obtain ⟨hq,hi⟩:=hg
  have hat:=HD s.heap (I.hok _ _ hq).1
  have hl:kvs.length=vs.length:=b8 kv
  obtain ⟨f0,f1,f2,f3,f4,f5⟩:=hf it (by simp)
  obtain ⟨⟨k,x⟩,hx,ek,_⟩:=Paired.get kv (aa hi)
  refine wpAny_pyNext_dict_item st hat hx λkey h' hkey st' sb=>?_
  have I1:Inv X pins σ H { s with heap:=h' }:=I.turned (t':=s.toks) (λb o hb e=>(sb.2 b hb).trans e) f0 f1 f3 f4 f5
  obtain ⟨ob,e,c,d⟩:=id st'
  exact ⟨key,rfl,gL (s:={ s with heap:=h' }) e c d ⋯ ⟨kV k,H,I1,relK hkey,⟨rfl,_,aa hi,by rw [show (kvs[i]'hi).1=k from ek]⟩,st',λb hb=>(hf b hb).1⟩⟩
 done:=by
  intro X hP hw hK hc i pins s σ H E I hf st hg
  subst hP hw hK
  obtain ⟨hq,hi⟩:=hg
  have hat:=HD s.heap (I.hok _ _ hq).1
  have hl:kvs.length=vs.length:=b8 kv
  obtain ⟨f0,f1,f2,f3,f4,f5⟩:=hf it (by simp)
  exact wpAny_pyNext_dict_end (I.ok.hd hc) st hat (by simp;omega) λh' eb=>⟨rfl,I.turned (t':=s.toks) (λb o hb e=>eb b o hb e) f0 f1 f3 f4 f5⟩
 self:=λ_ _ _ _ _ st h=>wpAny_pyIter_keyiter st h
def iDic (td:TE):TI:=λσ H R=>td σ H λx H1=>∃a kvs,x = .ref a/\((H1 a=some (.dK kvs)/\∀o,R (Itd a o kvs) (upd H1 a (.frz o (.dK kvs))))\/∃o,H1 a=some (.frz o (.dK kvs))/\R (Itd a o kvs) H1)
theorem QM {X:Cx}{tg l:Expr}{td:TE}(hl:PE X l td):PI X tg l (iDic td):=by
 intro pins s σ H R I h
 refine thn (hl pins s σ H _ I h) λv s1 ⟨x,H1,I1,r1,a,kvs,e,q⟩=>?_
 subst e
 cases r1
 have main:∀{H2:Hp} {o:Obj},Inv X pins σ H2 s1->H2 a=some (.frz o (.dK kvs))->R (Itd a o kvs) H2->ay (aC X.prog X.w) X.A (lV (.ref a)) (PIE X pins σ tg R) X.xe s1:=λ{H2 o} I2 e2 q2=>by
  have ho:=(I2.hok _ _ e2).1
  obtain ⟨hz,lo,vs,kv,dd⟩:=yt I2.hok (.inr ⟨o,e2⟩)
  obtain ⟨ep,ob,es,h1,hrest⟩:=dd.dictAt
  rw [ho] at h1
  cases h1
  have HD:∀h:Heap,h.get? a=some o->h.DictAt (jw X.prog X.w) a vs ep:=λh e=>⟨o,es,e,hrest⟩
  refine wpAny_pyIter_dict lo (HD _ ho) ?_
  refine ⟨s1.heap.objs.size,[s1.heap.objs.size],_,_,H2,rfl,I2.kept (t':=s1.toks) λb o e=>ah _ e,Z1 kv HD,⟨_,az _ rfl,rfl,rfl⟩,λb hb=>?_,q2⟩
  have e:b=s1.heap.objs.size:=by simpa using hb
  subst e
  exact I2.fpOk (ao _) (I2.hok.fresh (ao _))
 rcases q with ⟨e1,q1⟩ | ⟨o,e1,q1⟩
 ·obtain ⟨hz,lo,vs,kv,dd⟩:=yt I1.hok (.inl e1)
  obtain ⟨ep,ob,es,h1,hrest⟩:=dd.dictAt
  exact main (I1.freeze e1 h1) j4 (q1 ob)
 ·exact main I1 e1 q1
theorem Jt {a:Addr}{o:Obj}{kvs:List (Key×V)}{g:TG}{tb:TS}{D:Ends}{σ:St}{H:Hp}(Pv:Nat->St->Hp->Prop) (h0:Pv 0 σ H) (hl:∀i σ H,i<=kvs.length->Pv i σ H->H a=some (.frz o (.dK kvs)))
  (hs:∀i q σ H,kvs[i]? = some q->Pv i σ H->g (kV q.1) σ H λσ2 H2=>tb { D with nx:=Pv (i+1),ct:=Pv (i+1),bk:=D.nx } σ2 H2) (hd:∀σ H,Pv kvs.length σ H->D.nx σ H) :
  ∃W:Nat->Nat->St->Hp->Prop,(∃m,W 0 m σ H)/\∀i m σ H,W i m σ H ->
   ((Itd a o kvs).stop i H/\D.nx σ H)\/((Itd a o kvs).go i H/\∃N:St->Hp->Prop,(∀σ' H',N σ' H'->∃m',m'<m/\W (i+1) m' σ' H')/\∀x H',(Itd a o kvs).yld i H x H'->g x σ H' λσ2 H2=>tb { D with nx:=N,ct:=N,bk:=D.nx } σ2 H2):=by
 refine ⟨λi m σ H=>m=kvs.length-i/\i<=kvs.length/\Pv i σ H,⟨kvs.length,by simp,aJ _,h0⟩,?_⟩
 rintro i m σ H ⟨rfl,hi,p⟩
 have q:=hl i σ H hi p
 by_cases hlt:i<kvs.length
 ·refine .inr ⟨⟨q,hlt⟩,Pv (i+1),λσ' H' p'=>⟨kvs.length-(i+1),∅,rfl,hlt,p'⟩,λx H' y=>?_⟩
  obtain ⟨e,z,hz,ex⟩:=y
  subst e ex
  exact hs i z σ _ hz p
 ·obtain rfl:i=kvs.length:=∅
  exact .inl ⟨⟨q,ao _⟩,hd σ H p⟩
end L2
end
section
namespace L2
open PySem.W
theorem XJ {P:Program}{w:aV}{K:aj}{tg:Expr}(it:Addr) (lo:Int) (n:Nat):Turn P w K tg (Itr lo n) [it] it (λi h=>IsLongIter h it (lo+(i:Nat)*1) ((n:Int)-(i:Nat)) 1) where
 mem:=by simp
 obj:=λi h st b hb=>by
  have e:b=it:=by simpa using hb
  subst e
  exact ⟨_,st,λv z=>by
   have z':fb _=iS v:=z
   cases z'⟩
 keep:=λi h h' st k=>k it (by simp) _ st
 item:=by
  intro X hP hw hK hc i pins s σ H E I hf st hg
  subst hP hw hK
  obtain ⟨f0,f1,f2,f3,f4,f5⟩:=hf it (by simp)
  have W:=Walks.longrange (prog:=X.prog) (w:=X.w) (I.ok.hd hc) it lo 1 n
  refine W.item i s _ _ hg st λv h' tk hv st' kk=>?_
  obtain ⟨t,rfl⟩:=hv
  have I1:Inv X pins σ H { s with heap:=h',toks:=tk }:=I.turned (λb o hb e=>kk b o (by simpa using hb) e) f0 f1 f3 f4 f5
  refine ⟨_,rfl,gL (s:={ s with heap:=h',toks:=tk }) (n:="longrange_iterator") st' rfl rfl ⋯ ⟨.int (lo+i),H,I1,⟨t,?_⟩,⟨rfl,rfl⟩,st',λb hb=>(hf b hb).1⟩⟩
  rw [Int.mul_one]
 done:=by
  intro X hP hw hK hc i pins s σ H E I hf st hg
  subst hP hw hK
  obtain ⟨f0,f1,f2,f3,f4,f5⟩:=hf it (by simp)
  exact wpAny_pyNext_long_end (I.ok.hd hc) st (by have:n<=i:=hg;omega) λh' eb=>⟨rfl,I.turned (t':=s.toks) (λb o hb e=>eb b o hb e) f0 f1 f3 f4 f5⟩
 self:=λ_ _ _ _ _ st h=>wpAny_pyIter_longiter st h
section
variable {X:Cx}{tg:Expr}
theorem XG {pins:List (Addr×Obj)}{σ:St}{H:Hp}{s:Shared}{R:It->Hp->Prop}{E:ag->Shared->Prop}{lo hi:Int}{t u v:Tok}{tk:Nat}(I:Inv X pins σ H s)
  (q:R (Itr lo (hi-lo).toNat) H):ay (aC X.prog X.w) X.A (lV (.ref s.heap.objs.size)) (PIE X pins σ tg R) E { s with heap:=s.heap.push { cls:=.type "range",data:=.fields #[.int lo t,.int hi u,.int 1 v] },toks:=tk }:=by
 have I1:Inv X pins σ H { s with heap:=s.heap.push { cls:=.type "range",data:=.fields #[.int lo t,.int hi u,.int 1 v] },toks:=tk }:=I.kept λb o e=>ah _ e
 have e1:lo+((0:Nat):Int)*1=lo:=by simp
 have e2:(((hi-lo).toNat:Nat):Int)-((0:Nat):Int)=iT lo hi 1:=by rw [pL];split <;> omega
 have fp:∀b∈[(s.heap.push { cls:=.type "range",data:=.fields #[.int lo t,.int hi u,.int 1 v] }).objs.size],_:=λb hb=>by
  have e:b=(s.heap.push { cls:=.type "range",data:=.fields #[.int lo t,.int hi u,.int 1 v] }).objs.size:=by simpa using hb
  subst e
  exact I1.fpOk (ao _) (I1.hok.fresh (ao _))
 by_cases sm:Builtin.Range.small lo hi 1=true
 ·refine mH (oi ..) sm ?_
  refine ⟨(s.heap.push { cls:=.type "range",data:=.fields #[.int lo t,.int hi u,.int 1 v] }).objs.size,[(s.heap.push { cls:=.type "range",data:=.fields #[.int lo t,.int hi u,.int 1 v] }).objs.size],_,_,H,rfl,
   I1.kept (t':=tk) λb o e=>ah _ e,uz _ lo (hi-lo).toNat,?_,fp,q⟩
  show oh _ _ (lo+((0:Nat):Int)*1) ((((hi-lo).toNat:Nat):Int)-((0:Nat):Int)) 1
  rw [e1,e2]
  exact az _ rfl
 ·refine wpAny_pyIter_longrange (oi ..) (by simpa using sm) ?_
  refine ⟨(s.heap.push { cls:=.type "range",data:=.fields #[.int lo t,.int hi u,.int 1 v] }).objs.size,[(s.heap.push { cls:=.type "range",data:=.fields #[.int lo t,.int hi u,.int 1 v] }).objs.size],_,_,H,rfl,
   I1.kept (t':=tk) λb o e=>ah _ e,XJ _ lo (hi-lo).toNat,?_,fp,q⟩
  show IsLongIter _ _ (lo+((0:Nat):Int)*1) ((((hi-lo).toNat:Nat):Int)-((0:Nat):Int)) 1
  rw [e1,e2]
  exact az _ rfl
def UI (ta:TA):TI:=λσ H R=>ta σ H λvs H1=>∃i j:Int,vs=[.int i,.int j]/\R (Itr i (j-i).toNat) H1
theorem XW {a b:Expr}{ta:TA}{p pos:Pos}(hg:Gl X "range") (hm:X.mg "range" = none) (ha:PA X [a,b] ta) (hs:aH [a,b] X.env=[(false,eval a X.env),(false,eval b X.env)]:=by rfl) (hs2:aH [b] X.env=[(false,eval b X.env)]:=by rfl) :
  PI X tg (.Call (.Name "range" p) [a,b] [] pos) (UI ta):=by
 intro pins s σ H R I h
 refine rJ (zI I hg hm oV (bU (thn (ha pos pins s σ H _ I h) λus s1 ⟨vs,H1,I1,r1,q1⟩=>?_) (by rw [hs,hs2]) (by rw [hs2];rfl)))
 obtain ⟨i,j,e,q⟩:=q1
 subst e
 cases r1 with
 | cons r rr =>
  cases rr with
  | cons r' rr =>
   cases rr
   obtain ⟨t,rfl⟩:=r
   obtain ⟨t',rfl⟩:=r'
   exact call_range_2 (XG I1 q)
end
end L2
end
section
namespace L2
open PySem.W
def Fz (a:Addr) (kvs:List (Key×V)) (o:Obj) (H H4:Hp):Prop:=H4 a=some (.frz o (.dK kvs))/\(H4=H\/(H a=some (.dK kvs)/\H4=upd H a (.frz o (.dK kvs))))
theorem Fz.at {a:Addr}{kvs:List (Key×V)}{o:Obj}{H H4:Hp}(f:Fz a kvs o H H4) {c:Addr}{u:HO}(h:H c=some u) (n:c≠a):H4 c=some u:=by
 rcases f.2 with rfl | ⟨_,rfl⟩
 ·exact h
 ·rw [j5 n];exact h
theorem wI {a:Addr}{kvs:List (Key×V)}{g:TG}{tb:TS}{D:Ends}{σ:St}{H:Hp}(h:Rd H a (.dK kvs)) (Pv:Obj->Nat->St->Hp->Prop) (h0:∀o H4,Fz a kvs o H H4->Pv o 0 σ H4) (hl:∀o i σ H,i<=kvs.length->Pv o i σ H->H a=some (.frz o (.dK kvs)))
  (hs:∀o i q σ H,kvs[i]? = some q->Pv o i σ H->g (kV q.1) σ H λσ2 H2=>tb { D with nx:=Pv o (i+1),ct:=Pv o (i+1),bk:=D.nx } σ2 H2) (hd:∀o σ H,Pv o kvs.length σ H->D.nx σ H) :
  ∃a' kvs',V.ref a = .ref a'/\((H a'=some (.dK kvs')/\∀o,∃W:Nat->Nat->St->Hp->Prop,(∃m,W 0 m σ (upd H a' (.frz o (.dK kvs'))))/\∀i m σ H,W i m σ H ->
   ((Itd a' o kvs').stop i H/\D.nx σ H)\/((Itd a' o kvs').go i H/\∃N:St->Hp->Prop,(∀σ' H',N σ' H'->∃m',m'<m/\W (i+1) m' σ' H')/\∀x H',(Itd a' o kvs').yld i H x H'->g x σ H' λσ2 H2=>tb { D with nx:=N,ct:=N,bk:=D.nx } σ2 H2)) \/
   ∃o,H a'=some (.frz o (.dK kvs'))/\∃W:Nat->Nat->St->Hp->Prop,(∃m,W 0 m σ H)/\∀i m σ H,W i m σ H ->
   ((Itd a' o kvs').stop i H/\D.nx σ H)\/((Itd a' o kvs').go i H/\∃N:St->Hp->Prop,(∀σ' H',N σ' H'->∃m',m'<m/\W (i+1) m' σ' H')/\∀x H',(Itd a' o kvs').yld i H x H'->g x σ H' λσ2 H2=>tb { D with nx:=N,ct:=N,bk:=D.nx } σ2 H2)):=by
 rcases h with h | ⟨o,h⟩
 ·exact ⟨a,kvs,rfl,.inl ⟨h,λo=>Jt (a:=a) (o:=o) (kvs:=kvs) (Pv o) (h0 o _ ⟨j4,.inr ⟨h,rfl⟩⟩) (hl o) (hs o) (hd o)⟩⟩
 ·exact ⟨a,kvs,rfl,.inr ⟨o,h,Jt (a:=a) (o:=o) (kvs:=kvs) (Pv o) (h0 o _ ⟨h,.inl rfl⟩) (hl o) (hs o) (hd o)⟩⟩
end L2
end
section
namespace L2
open PySem.W
section
variable {prog:Program}{w:aV}{A:ba}{E:ag->Shared->Prop}{s:Shared}
theorem YB:oZ (.type "list") "keys" = pure none:=by rw [typeLookup_type,builtinLookup_eq_fast];kernel_rfl
theorem Xe {a:Addr}{o:Obj}{xs:Array ag}{k:Nat}{Q:Option ag->Shared->Prop}(hx:s.heap.get? a=some o) (hc:o.cls = .type "list") (hdat:o.data = .seq xs k) (hd:o.dict=none) (hA:A.handled=none)
  (h:∀h' tk,(∀b o,s.heap.get? b=some o->h'.get? b=some o)->Q none { s with heap:=h',toks:=tk }):ay (aC prog w) A (getAttr? (.ref a) "keys") Q E s:=by
 obtain ⟨c,dct,dat,sl⟩:=o
 simp only at hc hdat hd
 subst hc hdat hd
 obtain ⟨hp,g,d,tk,os⟩:=s
 have hT:∀tk',(⟨hp,g,d,tk',os⟩:Shared).TypeIs (.ref a) "list":=λ_=>⟨_,hx,rfl⟩
 have f1:=sub_AttributeError
 have f3:=F.slot_list_getattribute.lookup
 have f4:=F.slot_list_getattribute.bind (.ref a)
 have f5:=am_list_getattr_none
 unfold getAttr? getAttrBy? getAttrBy
 repeat (any_goals (first | assumption | exact hT _ | ((with_reducible show ay _ _ (call (Value.builtin "list.__getattribute__") _ _) _ _ _);refine mI F.slot_list_getattribute (hT _) am_entry_list_getattribute (F.args_list_getattribute_2 _ _) (meets_getattribute_miss_list a xs k sl "keys" _ YB (by decide +kernel) ⋯) ⟨hx,hA,λh' tk' e hx'=>?_⟩) | wp_step))
 obtain ⟨t',u',he⟩:=hx'.there
 show ay _ _ (mR _ _ _ _ _ _ _) _ _ _
 unfold mR
 repeat (any_goals (first | assumption | wp_step))
 exact h h' tk' hx'.of.keeps
end
theorem ud:entryFor table "dict.update.loop" = some dY.«dict.update.loop»:=entryFor_of_tree (by kernel_rfl)
theorem zf:plainId "dict.update.loop" = true:=by decide +kernel
section
variable {prog:Program}{w:aV}{A:ba}{R:lW->Shared->Prop}{d it l:Addr}{items:Array ag}{qs:List (Key×ag×ag)}
def hV (d it:Addr) (items:Array ag) (qs:List (Key×ag×ag)) (h:Heap):Prop:=∀(i:Nat) (q:Key×ag×ag),qs[i]? = some q->∃b:Addr,items[i]? = some (.ref b)/\b≠d/\b≠it/\h.IsTuple b #[q.2.1,q.2.2]
theorem hV.keep {h h':Heap}(x:hV d it items qs h) (k:∀b o,b≠d->b≠it->h.get? b=some o->h'.get? b=some o):hV d it items qs h':=λi q hq=>by
 obtain ⟨b,h1,h2,h3,o,ho,r⟩:=x i q hq
 exact ⟨b,h1,h2,h3,o,k b o h2 h3 ho,r⟩
theorem XZ (hh:A.handled=none) (hld:l≠d) (hli:l≠it) (hdi:d≠it) (hsz:qs.length<=sizeLine) (hk:∀q∈qs,(jw prog w).is q.1 q.2.1=true) (nd:(qs.map (·.1)).Nodup) (hn:items.size=qs.length) :
  ∀(n i:Nat) (s:Shared),qs.length-i=n->i<=qs.length->s.heap.IsListIter it l i->s.heap.IsList l items->hV d it items qs s.heap->s.heap.DictOf (jw prog w) d ((qs.take i).map λq=>(q.1,q.2.2)) ->
   (∀h' tk,(∀b o,b≠d->b≠it->s.heap.get? b=some o->h'.get? b=some o)->h'.DictOf (jw prog w) d (qs.map λq=>(q.1,q.2.2))->R (.ok (.ret .none)) { s with heap:=h',toks:=tk }) ->
   cI (aC prog w) A (.builtin "dict.update.loop" ⟨[.ref d,.ref it,bS i,.none],[]⟩) R s:=by
 have hh1:A.in1.handled=none:=by simp [hh]
 intro n
 induction n with
 | zero =>
  intro i s e hi st hl ht hd hR
  obtain rfl:i=qs.length:=∅
  refine dQ ud ?_
  rw [cK zf _]
  show ay _ A.in1 (fq (.ref it) >>= _) _ _ s
  refine ae (lQ hh1 st hl (by simp;omega) λh' eb=>?_)
  show ay _ A.in1 (Builtin.Dict.addKeywords d [] >>= _) _ _ _
  rw [bb] at hd
  exact ae (wpAny_pure (wpAny_pure (hR h' s.toks (λb o _ h2 h=>eb b o h2 h) (hd.extBut eb hdi))))
 | succ n ih =>
  intro i s e hi st hl ht hd hR
  have hlt:i<qs.length:=∅
  obtain ⟨⟨k,kv,v⟩,hq⟩:∃q,qs[i]? = some q:=⟨_,aa hlt⟩
  obtain ⟨b,hb,bd,bi,hbt⟩:=ht i _ hq
  refine dQ ud ?_
  rw [cK zf _]
  show ay _ A.in1 (fq (.ref it) >>= _) _ _ s
  refine ae (lh st hl hb λh1 st1 sb=>?_)
  have hbt1:h1.IsTuple b #[kv,v]:=by
   obtain ⟨o,ho,r⟩:=hbt
   exact ⟨o,(sb.2 b bi).trans ho,r⟩
  show ay _ A.in1 (eF [b0 b] _ >>= _) _ _ _
  obtain ⟨ob,hob,hcb,nb,hdb⟩:=hbt1
  refine ae (bG (ae (iE ?_)))
  unfold Builtin.Dict.pairItems
  refine ae (nk (T:="tuple") ⟨ob,hob,hcb⟩ ?_)
  rw [if_pos ⋯]
  refine ae (cg hob hdb (wpAny_pure ?_))
  show ay _ A.in1 (eF [kv,v] (dictSet d kv v)) _ _ _
  have hd1:h1.DictOf (jw prog w) d ((qs.take i).map λq=>(q.1,q.2.2)):=hd.sameBut sb hdi
  refine bG (wpAny_dictSet_pairs (s:={ s with heap:=h1 }) (hk _ (av hq)) hd1 (λh2 hd2 sd=>?_) (by rw [af,aM];omega))
  refine wpAny_pure ⟨dm zf _,?_⟩
  have keep:∀c o,c≠d->c≠it->s.heap.get? c=some o->h2.get? c=some o:=λc o n1 n2 h=>(sd.2 c n1).trans ((sb.2 c n2).trans h)
  refine ih (i+1) { s with heap:=h2,toks:=s.toks+1 } ∅ ∅ ?_ ?_ (ht.keep keep) ?_ λh3 tk k3 d3=>?_
  ·obtain ⟨o,ho,r⟩:=st1
   exact ⟨o,(sd.2 it hdi.symm).trans ho,r⟩
  ·obtain ⟨o,ho,r⟩:=hl
   exact ⟨o,keep l o hld hli ho,r⟩
  ·have e:pW ((qs.take i).map λq=>(q.1,q.2.2)) k v=(qs.take (i+1)).map λq=>(q.1,q.2.2):=by
    rw [pW,if_neg,bW,hq]
    ·simp
    ·intro z
     obtain ⟨x,hx,ex⟩:=List.any_eq_true.mp z
     obtain ⟨u,hu,rfl⟩:=List.mem_map.mp hx
     have ex:u.1=k:=of_decide_eq_true ex
     obtain ⟨j,hj,ej⟩:=List.mem_iff_getElem.mp hu
     rw [aM] at hj
     rw [nE] at ej
     obtain ⟨_,eq⟩:=List.getElem?_eq_some_iff.mp hq
     have h1:(qs.map (·.1))[j]'(by rw [af];omega)=(qs.map (·.1))[i]'(by rw [af];exact hlt):=by rw [dB,dB,ej,eq,ex]
     exact absurd h1 (List.pairwise_iff_getElem.mp nd j i _ _ ∅)
   rw [<- e]
   exact hd2
  ·exact hR h3 tk (λc o n1 n2 h=>k3 c o n1 n2 (keep c o n1 n2 h)) d3
end
section
variable {prog:Program}{w:aV}{A:ba}{E:ag->Shared->Prop}{s:Shared}{l:Addr}{ol:Obj}{nl:Nat}{items:Array ag}{qs:List (Key×ag×ag)}
theorem Q4 {Q:ag->Shared->Prop}(hh:A.handled=none) (ho:s.heap.get? l=some ol) (hc:ol.cls = .type "list") (hdt:ol.data = .seq items nl) (hdc:ol.dict=none) (hsz:qs.length<=sizeLine) (hk:∀q∈qs,(jw prog w).is q.1 q.2.1=true) (nd:(qs.map (·.1)).Nodup) (hn:items.size=qs.length)
  (ht:∀(i:Nat) (q:Key×ag×ag),qs[i]? = some q->∃b:Addr,items[i]? = some (.ref b)/\s.heap.IsTuple b #[q.2.1,q.2.2])
  (h:∀h' tk,(∀b o,s.heap.get? b=some o->h'.get? b=some o)->h'.DictOf (jw prog w) s.heap.objs.size (qs.map λq=>(q.1,q.2.2))->Q (.ref s.heap.objs.size) { s with heap:=h',toks:=tk }) :
  ay (aC prog w) A (call (.type "dict") [.ref l]) Q E s:=by
 refine callType_codes (Q₁:=λobj s₁=>obj = .ref s.heap.objs.size/\s₁={ s with heap:=s.heap.push { cls:=.type "dict",data:=.dict #[] } }) F.kt_called_dict (F.kt_typeCall_dict_1 _) F.entry_dict_init (kt_code_dict_new _ ⟨rfl,rfl⟩) ?_
 rintro obj s₁ ⟨rfl,rfl⟩
 have hnew:(s.heap.push { cls:=.type "dict",data:=.dict #[] }).DictOf (jw prog w) s.heap.objs.size []:=oF s.heap
 have kp:∀b o,s.heap.get? b=some o->(s.heap.push { cls:=.type "dict",data:=.dict #[] }).get? b=some o:=λb o q=>ah _ q
 refine ⟨hnew.typeIs,F.args_dict_init_2 _ _,?_⟩
 have lt:∀b o,s.heap.get? b=some o->b≠s.heap.objs.size:=λb o q=>aA (ar q)
 unfold dY.«dict.__init__»
 refine ae ?_
 unfold Builtin.Dict.selfAndRest
 refine ae (wpAny_notOrdered_dict hnew.typeIs ?_)
 show ay _ _ (pure (s.heap.objs.size,[b0 l])) _ _ _
 refine wpAny_pure ?_
 show ay _ _ (l3 "dict.__init__" s.heap.objs.size (.ref l) [] .none) _ _ _
 unfold l3
 refine ae (nk (T:="list") ⟨_,kp _ _ ho,hc⟩ ?_)
 rw [if_pos ⋯]
 generalize hz:s.heap.push { cls:=.type "dict",data:=.dict #[] }=h0 at *
 refine ae (Xe (s:={ s with heap:=h0 }) (kp _ _ ho) hc hdt hdc (by simp [hh]) λh1 tk k1=>?_)
 rw [if_pos (show (none:Option ag).isNone=true from rfl)]
 have hl1:h1.IsList l items:=⟨ol,k1 _ _ (kp _ _ ho),hc,nl,hdt⟩
 refine ae (eY ?_)
 refine ae (cM (s:={ s with heap:=h1,toks:=tk }) hl1 (wpAny_pure ⟨dm zf _,?_⟩))
 obtain ⟨od,_,_,hod,_⟩:=id hnew
 have hi1:∀b o,h1.get? b=some o->b≠h1.objs.size:=λb o q=>aA (ar q)
 have kp2:∀b o,s.heap.get? b=some o->(h1.push { cls:=.type "list_iterator",data:=.fields #[.ref l,.int 0 0] }).get? b=some o:=λb o q=>ah _ (k1 _ _ (kp _ _ q))
 refine XZ (d:=s.heap.objs.size) (it:=h1.objs.size) (l:=l) (items:=items) (qs:=qs) (by simp [hh]) (lt _ _ ho) (hi1 _ _ (k1 _ _ (kp _ _ ho))) (hi1 _ _ (k1 _ _ hod)) hsz hk nd hn qs.length 0 _ ∅ (aJ _) ⟨_,az _ rfl,rfl,rfl⟩ (hl1.push _) (λi q hq=>?_) ?_ λh' tk' k' d'=>?_
 ·obtain ⟨b,hb,o,hbo,r⟩:=ht i q hq
  exact ⟨b,hb,lt _ _ hbo,hi1 _ _ (k1 _ _ (kp _ _ hbo)),o,kp2 _ _ hbo,r⟩
 ·obtain ⟨o,es,ep,ho',r⟩:=hnew
  exact ⟨o,es,ep,ah _ (k1 _ _ ho'),r⟩
 ·exact ⟨rfl,h h' tk' (λb o q=>k' b o (lt _ _ q) (hi1 _ _ (k1 _ _ (kp _ _ q))) (kp2 _ _ q)) d'⟩
end
theorem ug {α β:Type}(P:Nat->α->β->Prop):∀(l:List α) (n:Nat),(∀(i:Nat) a,l[i]? = some a->∃b,P (n+i) a b)->∃bs:List β,bs.length=l.length/\∀(i:Nat) a b,l[i]? = some a->bs[i]? = some b->P (n+i) a b
 | [],n,_=>⟨[],rfl,λi a b h=>by simp at h⟩
 | x::r,n,h=>by
  obtain ⟨b,hb⟩:=h 0 x rfl
  obtain ⟨bs,hl,hbs⟩:=ug P r (n+1) λi a hi=>by
   have:=h (i+1) a (by simpa using hi)
   rwa [show n+1+i=n+(i+1) by omega]
  refine ⟨b::bs,by simp [hl],λi a b' h1 h2=>?_⟩
  cases i with
  | zero =>
   simp at h1 h2
   subst h1 h2
   exact hb
  | succ i =>
   have:=hbs i a b' (by simpa using h1) (by simpa using h2)
   rwa [show n+(i+1)=n+1+i by omega]
theorem wF {α β:Type}{F:α->β->Prop}:∀{l₁:List α}{l₂:List β},l₁.length=l₂.length->(∀(i:Nat) a b,l₁[i]? = some a->l₂[i]? = some b->F a b)->cO F l₁ l₂
 | [],[],_,_=>.nil
 | [],_::_,h,_=>by simp at h
 | _::_,[],h,_=>by simp at h
 | x::r,y::t,h,k=>.cons (k 0 x y rfl rfl) (wF (by simpa using h) λi a b h1 h2=>k (i+1) a b (by simpa using h1) (by simpa using h2))
theorem Qo {X:Cx}(K:aj) (hca:X.calm=true) (hK:X.K=K:=by rfl):qu X (.type "dict") (λxs H Q=>∃(p:Addr) (out:List V) (ms:List (Int×Int)),xs=[.ref p]/\SqL K H p out/\cO (λv (m:Int×Int)=>∃b,v=V.ref b/\H b=some (.tup [.int m.1,.int m.2])) out ms/\(ms.map (·.1)).Nodup/\ms.length<=1000 /\
  ∀(d:Addr) H',H d=none->H' d=some (.dK (ms.map λm=>(.inl m.1,.int m.2)))->jm H H'->Q (.ref d) H'):=by
 subst hK
 intro pins s σ H xs us Q I r h
 obtain ⟨p,out,ms,rfl,hq,hm,nd,h1000,k⟩:=h
 obtain ⟨u,rfl,ru⟩:=xU r
 cases ru
 obtain ⟨its,rv,⟨ol,nl,ho,hc,hdc,hdt⟩,hz⟩:=I.list hq
 have hlen:out.length=ms.length:=b8 hm
 have hits:out.length=its.length:=rv.length
 obtain ⟨qs,hql,hqs⟩:=ug (λi (m:Int×Int) (q:Key×ag×ag)=>∃(b:Addr) (t1 t2:Tok),q=(.inl m.1,.int m.1 t1,.int m.2 t2)/\its[i]? = some (.ref b)/\s.heap.IsTuple b #[.int m.1 t1,.int m.2 t2]) ms 0 λi m hi=>by
  rw [lF]
  have hio:i<out.length:=by rw [hlen];exact (List.getElem?_eq_some_iff.mp hi).1
  obtain ⟨m',hm',b,eb,hb⟩:=Paired.get hm (aa hio)
  rw [hi] at hm'
  cases hm'
  obtain ⟨u,hu,ru⟩:=rv.get (aa hio)
  rw [eb] at ru
  cases (show u=b0 b from ru)
  obtain ⟨_,its',r',o,h1,h2,n,h3⟩:=(show qk X.prog X.w H s.heap b (.tup [.int m.1,.int m.2]) from I.hok b _ hb)
  cases r' with
  | cons p1 q1 =>
   cases q1 with
   | cons p2 q2 =>
    cases q2
    obtain ⟨t1,rfl⟩:=p1
    obtain ⟨t2,rfl⟩:=p2
    exact ⟨_,b,t1,t2,rfl,hu,o,h1,h2,n,h3⟩
 have get:∀(i:Nat) (q:Key×ag×ag),qs[i]? = some q->∃(m:Int×Int) (b:Addr) (t1 t2:Tok),ms[i]? = some m/\q=(.inl m.1,.int m.1 t1,.int m.2 t2)/\its[i]? = some (.ref b)/\s.heap.IsTuple b #[.int m.1 t1,.int m.2 t2]:=λi q hi=>by
  have him:i<ms.length:=by rw [<- hql];exact (List.getElem?_eq_some_iff.mp hi).1
  obtain ⟨b,t1,t2,e,h1,h2⟩:=hqs i _ q (aa him) hi
  rw [lF] at h1
  exact ⟨_,b,t1,t2,aa him,e,h1,h2⟩
 have keys:qs.map (·.1)=ms.map λm=>(du m.1:Key):=by
  refine fH λi=>?_
  rw [au,au]
  cases e:qs[i]? with
  | none =>
   rw [List.getElem?_eq_none_iff] at e
   rw [List.getElem?_eq_none_iff.mpr ∅]
   rfl
  | some q =>
   obtain ⟨m,b,t1,t2,h1,h2,_⟩:=get i q e
   rw [h1,h2]
   rfl
 have ndk:(qs.map (·.1)).Nodup:=by
  rw [keys,show (ms.map λm=>(du m.1:Key))=(ms.map (·.1)).map du by rw [bF];rfl]
  exact List.Pairwise.map _ (λa b h e=>h (f7 e)) nd
 have KVr:KV (ms.map λm=>((.inl m.1,.int m.2):Key×V)) (qs.map λq=>(q.1,q.2.2)):=by
  refine wF (by rw [af,af,hql]) λi a b h1 h2=>?_
  rw [au] at h1 h2
  obtain ⟨q,hq',rfl⟩:=Option.map_eq_some_iff.mp h2
  obtain ⟨m,_,t1,t2,hm',e,_⟩:=get i q hq'
  rw [hm'] at h1
  cases h1
  subst e
  exact ⟨rfl,t2,rfl⟩
 refine Q4 (qs:=qs) (I.ok.hd hca) ho hc hdt hdc (by rw [hql];exact aF h1000 ⋯) (λq hq'=>?_) ndk (by simp;omega) (λi q hi=>?_) λh' tk keep dd=>?_
 ·obtain ⟨i,hi,e⟩:=List.mem_iff_getElem.mp hq'
  obtain ⟨m,b,t1,t2,h1,h2,_⟩:=get i q (by rw [aa hi,e])
  subst h2
  exact ke (k:=.inl m.1) ⟨t1,rfl⟩
 ·obtain ⟨m,b,t1,t2,h1,h2,h3,h4⟩:=get i q hi
  subst h2
  exact ⟨b,by simpa using h3,h4⟩
 ·have hf:=I.hok.fresh (ao s.heap.objs.size)
  exact ⟨.ref _,upd H s.heap.objs.size (.dK (ms.map λm=>((.inl m.1,.int m.2):Key×V))),I.laid (t':=tk) keep (ao _) (kD (by rw [af];exact aF h1000 ⋯) (beq_eq_false_iff_ne.mpr (c5 (aA I.big))) KVr dd),rfl,k _ _ hf j4 (jm.new hf)⟩
end L2
end
section
namespace L2
open PySem.W
theorem uJ:∀(ns:List Int) (its:List ag),its.length=ns.length->(∀i,i<its.length->∃t,its[i]? = some (.int (ns.getD i 0) t))->jx (ns.map V.int) its
 | [],[],_,_=>.nil
 | n::ns,v::its,hl,h=>by
  obtain ⟨t,e⟩:=h 0 (by simp)
  have e:v = .int n t:=by simpa using e
  refine .cons ⟨t,e⟩ (uJ ns its (by simpa using hl) λi hi=>?_)
  obtain ⟨t,e⟩:=h (i+1) (by simpa using hi)
  exact ⟨t,by simpa using e⟩
section
variable {X:Cx}
theorem Qb (K:aj) (hca:X.calm=true) (hK:X.K=K:=by rfl):qu X (.type "list") (λxs H Q=>∃(p:Addr) (kvs:List (Key×V)) (ns:List Int),xs=[.ref p]/\Rd H p (.dK kvs)/\kvs.map (·.1)=ns.map du/\ns.length<=1000/\New H (.lst (ns.map V.int)) Q):=by
 subst hK
 intro pins s σ H xs us Q I r h
 obtain ⟨p,kvs,ns,rfl,hp0,hks,hl,k⟩:=h
 obtain ⟨u,rfl,ru⟩:=xU r
 cases ru
 obtain ⟨hz,lo,vs,kv,dd⟩:=yt I.hok hp0
 obtain ⟨ep,hat⟩:=dd.dictAt
 have hvl:vs.length=ns.length:=by
  have e1:kvs.length=vs.length:=b8 kv
  have e2:=congrArg lX hks
  rw [af,af] at e2
  omega
 refine kdl_call (kdl_dict (knd:=jw X.prog X.w) (kvs:=vs) (ep:=ep) lo) (I.ok.hd hca) hat (cU (jc ∅)) λh' tk acc c' hk hD hacc=>?_
 have hal:acc.toList.length=ns.length:=by rw [bQ,hacc.1,hvl]
 have item:∀i,i<acc.toList.length->∃t,acc.toList[i]? = some (.int (ns.getD i 0) t):=λi hi=>by
  have hi2:i<acc.size:=by rw [bQ] at hi;exact hi
  obtain ⟨key,x,hx,his⟩:=hacc.2 i acc[i] (d9 hi2)
  have hi3:i<kvs.length:=by
   have e1:kvs.length=vs.length:=b8 kv
   omega
  obtain ⟨q,hq,e1,_⟩:=Paired.get kv (aa hi3)
  rw [hx] at hq
  cases hq
  have e2:(kvs.map (·.1))[i]? = some key:=by rw [au,aa hi3];exact congrArg some e1
  have hin:i<ns.length:=∅
  rw [hks,au,aa hin] at e2
  cases e2
  obtain ⟨t,et⟩:=fm his
  refine ⟨t,?_⟩
  rw [lR,d9 hi2,et,ak,aa hin]
  rfl
 have hn0:s.heap.get? s.heap.objs.size=none:=by
  cases q:s.heap.get? s.heap.objs.size with
  | none=>rfl
  | some u=>exact absurd (ar q) (c3 _)
 obtain ⟨hH,I'⟩:=I.laidN (o:=.lst (ns.map V.int)) (t':=tk) hk hn0 λ_=>⟨by rw [af];exact cU (jc hl),acc.toList,c',uJ ns _ hal item,by simpa using hD⟩
 exact ⟨.ref s.heap.objs.size,_,I',rfl,k _ _ hH j4 (jm.new hH)⟩
end
end L2
end
section
namespace L2
open PySem.W
section
variable {prog:Program}{w:aV}{A:ba}{R:lW->Shared->Prop}{I:Addr}{fp wr:List Addr}{n:Nat}{P:Nat->ag->Prop}{St:Nat->Heap->Prop}{kw:List (Str×ag)}
theorem ut:(toString "max" ++ toString ".loop" : String) = "max.loop":=⋯
theorem ku (W:Walks prog w A.in1 I fp wr n P St) {bt:Nat->Nat->Bool}(hc:CmpOf prog w A.in1 .Gt P bt) {S:Addr}(ns:S∉fp) {d:ag}:∀(k j:Nat) (s:Shared) (vb:ag) (c:Nat),n-(j+1)=k->j+1<=n->St (j+1) s.heap->P (ml bt j) vb->s.heap.get? S=some { cls:=.type "list",dict:=none,data:=.seq #[vb,vb] c,slots:=#[] } ->
  (∀v h' tk,P (ml bt (n-1)) v->(∀b o,b∉wr->b≠S->s.heap.get? b=some o->h'.get? b=some o)->R (.ok (.ret v)) { s with heap:=h',toks:=tk })->cI (aC prog w) A (.builtin "max.loop" ⟨[.ref I,.none,.ref S],[("default",d)]⟩) R s
 | k,j,s,vb,c,hk,hj,hst,hP,hS,hR=>by
  have nw:S∉wr:=λh=>ns (W.sub _ h)
  refine dQ oa (cK dC _ ▸ ?_)
  show ay _ A.in1 (nX (.ref S) >>= _) _ _ s
  refine ae (cg hS rfl (show ay _ A.in1 (rE (fq (.ref I)) _ >>= _) _ _ s from ae (iE ?_)))
  by_cases e:j+1=n
  ·refine W.done s _ _ (e ▸ hst) λh' tk hk'=>?_
   show ay _ A.in1 (updateSeq S (λ_=>#[]) >>= _) _ _ _
   refine ae (lO (hk' S _ nw hS) rfl (ae (eA (wpAny_pure (hR vb _ tk (by rw [<- e];exact hP) λb o h1 h2 z=>?_)))))
   exact (bq _ _ (c5 h2)).trans (hk' b o h1 z)
  ·have lt:j+1<n:=∅
   refine W.item (j+1) s _ _ lt hst λv h' tk hv hst' hk'=>?_
   have hS':=hk' S _ nw hS
   show ay _ A.in1 (rE (eF [v,v] (richCompare .Gt v vb >>= _)) _ >>= _) _ _ _
   refine ae (iE (bG (ae (hc (j+1) (ml bt j) v vb _ _ _ hv hP (ae (bG (bT (ae (eA (wpAny_pure ?_))))))))))
   cases hb:bt (j+1) (ml bt j) with
   | true =>
    simp only [if_true]
    refine ae (lO hS' rfl (ae (eA (ut ▸ wpAny_pure ⟨dm dC _,?_⟩))))
    refine ku W hc ns (n-(j+1+1)) (j+1) _ v _ rfl lt (W.frame _ _ _ hst' λb hf o z=>?_) (by simp only [ml,hb,if_true];exact hv) (cE _ hS' rfl) λv' h2 tk2 hv' hk2=>?_
    ·exact (bq _ _ (λh:S=b=>ns (by rw [h];exact hf))).trans z
    ·exact hR v' h2 tk2 hv' λb o h1 h3 z=>hk2 b o h1 h3 ((bq _ _ (c5 h3)).trans (hk' b o h1 z))
   | false =>
    simp only [c0,if_false]
    refine ae (eA (ut ▸ wpAny_pure ⟨dm dC _,?_⟩))
    exact ku W hc ns (n-(j+1+1)) (j+1) _ vb c rfl lt hst' (by simp only [ml,hb,c0,if_false];exact hP) hS' λv' h2 tk2 hv' hk2=>hR v' h2 tk2 hv' λb o h1 h3 z=>hk2 b o h1 h3 (hk' b o h1 z)
termination_by k=>k
decreasing_by all_goals omega
theorem ZH (W:Walks prog w A.in1 I fp wr n P St) {bt:Nat->Nat->Bool}(hc:CmpOf prog w A.in1 .Gt P bt) {S:Addr}(ns:S∉fp) {d:ag}{s:Shared}{c:Nat}(hst:St 0 s.heap) (hS:s.heap.get? S=some { cls:=.type "list",dict:=none,data:=.seq #[] c,slots:=#[] })
  (h0:n=0->∀h' tk,(∀b o,b∉wr->b≠S->s.heap.get? b=some o->h'.get? b=some o)->R (.ok (.ret d)) { s with heap:=h',toks:=tk })
  (hR:0<n->∀v h' tk,P (ml bt (n-1)) v->(∀b o,b∉wr->b≠S->s.heap.get? b=some o->h'.get? b=some o)->R (.ok (.ret v)) { s with heap:=h',toks:=tk }):cI (aC prog w) A (.builtin "max.loop" ⟨[.ref I,.none,.ref S],[("default",d)]⟩) R s:=by
 have nw:S∉wr:=λh=>ns (W.sub _ h)
 refine dQ oa (cK dC _ ▸ ?_)
 show ay _ A.in1 (nX (.ref S) >>= _) _ _ s
 refine ae (cg hS rfl (show ay _ A.in1 (rE (fq (.ref I)) _ >>= _) _ _ s from ae (iE ?_)))
 rcases Nat.eq_zero_or_pos n with e | e
 ·refine W.done s _ _ (e ▸ hst) λh' tk hk'=>?_
  exact ae (eY (wpAny_pure (h0 e h' tk λb o h1 _ z=>hk' b o h1 z)))
 ·refine W.item 0 s _ _ e hst λv h' tk hv hst' hk'=>?_
  have hS':=hk' S _ nw hS
  show ay _ A.in1 (updateSeq S (λ_=>#[v,v]) >>= _) _ _ _
  refine ae (lO hS' rfl (ut ▸ wpAny_pure ⟨dm dC _,?_⟩))
  refine ku W hc ns _ 0 _ v _ rfl e (W.frame _ _ _ hst' λb hf o z=>?_) hv (cE _ hS' rfl) λv' h2 tk2 hv' hk2=>?_
  ·exact (bq _ _ (λh:S=b=>ns (by rw [h];exact hf))).trans z
  ·exact hR e v' h2 tk2 hv' λb o h1 h3 z=>hk2 b o h1 h3 ((bq _ _ (c5 h3)).trans (hk' b o h1 z))
end
theorem Yz (v:ag):Builtin.Builtins.bindParams "max" ["key","default"] 0 ⟨[],[(ai "default",v)]⟩=pure [none,some v]:=by rfl
theorem Ys (a v:ag):argsOk "max" ⟨[a],[(ai "default",v)]⟩:=by unfold argsOk;kernel_rfl
section
variable {X:Cx}
end
end L2
end
section
namespace L2
open PySem.W
theorem uv:∀(ns:List Int),(∀n∈ns,-(2 ^ 20)<=n/\n<=2 ^ 20) -> -(2 ^ 20)*(ns.length:Int)<=ns.sum/\ns.sum<=2 ^ 20*(ns.length:Int)
 | [],_=>by simp
 | n::ns,h=>by
  have a:=h n (aG ..)
  have b:=uv ns λz hz=>h z (aD _ hz)
  rw [mB,b7]
  omega
section
variable {X:Cx}
theorem vR (K:aj) (hc:X.calm=true) (hK:X.K=K:=by rfl):qu X (.builtin "sum") (λxs H Q=>∃(p:Addr) (ns:List Int),xs=[.ref p]/\SqL K H p (ns.map V.int)/\ns.length<=1000/\(∀n∈ns,-(2 ^ 20)<=n/\n<=2 ^ 20)/\Q (.int ns.sum) H):=by
 subst hK
 intro pins s σ H xs us Q I r h
 obtain ⟨p,ns,rfl,hq,hl,hb,q⟩:=h
 obtain ⟨u,rfl,ru⟩:=xU r
 cases ru
 obtain ⟨its,rv,pl,hz⟩:=I.list hq
 have hI:=qH rv
 have hlen:=hI.length
 have hne:p≠s.heap.objs.size:=by
  obtain ⟨o,n,e,_⟩:=id pl
  exact aA (ar e)
 refine pR (cM pl.isList ?_)
 refine ⟨s.heap.objs.size,_,_,_,_,_,λi=>ns.getD i 0,rfl,mK (show (X.A.in1).handled=none from I.ok.hd hc) s.heap.objs.size p hne its.toArray,⟨⟨_,az _ rfl,rfl,rfl⟩,pl.isList.at λo e=>ah _ e⟩,?_,?_,?_,?_⟩
 ·intro b hb'
  have hps:p<s.heap.objs.size:=by
   obtain ⟨o,n,e,_⟩:=id pl
   exact ar e
  show b<(s.heap.push _).objs.size
  rw [bK]
  rcases List.mem_cons.mp hb' with rfl | hb'
  ·exact dw _
  ·have e:b=p:=by simpa using hb'
   subst e
   exact bC hps
 ·intro i v hP
  have hP':its[i]? = some v:=by simpa using hP
  have hi:i<its.length:=(List.getElem?_eq_some_iff.mp hP').1
  obtain ⟨t,e⟩:=yU hI hi
  rw [e] at hP'
  refine ⟨t,?_⟩
  show v=eE (ns.getD i 0) t
  rw [ak,aa ∅]
  exact (aQ hP').symm
 ·intro j hj
  have hj':j<ns.length:=by
   have:its.toArray.size=its.length:=by simp
   omega
  constructor
  ·show InLong (ns.getD j 0)
   rw [ak,aa hj']
   have:=hb _ (bz hj')
   show -(2 ^ 63)<=ns[j]/\ns[j]<2 ^ 63
   omega
  ·rw [m9]
   have:=uv (ns.take (j+1)) λn hn=>hb n (fV hn)
   have hl2:(ns.take (j+1)).length<=1000:=by rw [aM];omega
   show -(2 ^ 63)<=_/\_<2 ^ 63
   omega
 ·intro h' tk t' hk
  rw [m9,bI (by simp;omega)]
  refine ⟨.int ns.sum,H,I.kept (t':=tk) λb o eo=>hk b o (by
   intro z
   have:=List.mem_singleton.mp z
   subst this
   exact absurd (ar eo) (c3 _)) (ah _ eo),⟨t',rfl⟩,q⟩
end
end L2
end
section
namespace L2
open PySem.W
abbrev Cx.noX (X:Cx):Cx:={ X with xe:=λ_ _=>False }
section
variable {X:Cx}{pins:List (Addr×Obj)}{σ:St}{H:Hp}{s:Shared}
theorem Inv.toNoX (I:Inv X pins σ H s):Inv X.noX pins σ H s:=⟨okP I.ok _ rfl,I.os,I.bare,I.base,I.loc,I.cell,I.free,I.freeC,I.pin,I.hok,I.len⟩
theorem Inv.ofNoX (I:Inv X.noX pins σ H s):Inv X pins σ H s:=⟨okP I.ok _ rfl,I.os,I.bare,I.base,I.loc,I.cell,I.free,I.freeC,I.pin,I.hok,I.len⟩
theorem VC {st:Stmt}{t:TS}(h:PS X.noX st t):PS X st t:=λpins s σ H D I q=>thn (wpAny_noRaise (h pins s σ H D I.toNoX q)) λ_ _ z=>spOf (λI=>I.ofNoX) z
end
end L2
end
section
namespace L2
open PySem.W
section
variable {X:Cx}
def Uu (K:aj) (ta:TA) (tx:TE):TE:=λσ H Q=>ta σ H λxs H0=>tx σ H0 λy H1=>∃(p:Addr) (ns:List Int),xs=[.ref p]/\SqL K H1 p (ns.map V.int)/\(ns=[]->Q y H1)/\∀M,M∈ns->(∀a∈ns,a<=M)->Q (.int M) H1
theorem YT {e x:Expr}{ta:TA}{tx:TE}{p pos kpos:Pos}(K:aj) (hc:X.calm=true) (hg:Gl X "max") (hm:X.mg "max" = none) (ha:PA X [e] ta) (hx:PE X x tx) (hK:X.K=K:=by rfl)
  (he:ck pos (aH [e] X.env)=(false,eval e X.env)::ck pos (aH [] X.env):=by rfl) (hplain:(ck pos (aH [e] X.env)).any (·.1)=false:=by rfl) :
  PE X (.Call (.Name "max" p) [e] [⟨some (ai "default"),x,kpos⟩] pos) (Uu K ta tx):=by
 subst hK
 intro pins s σ H Q I h
 refine cF (zI I hg hm nH ?_ ⋯ ⋯)
 refine callWith_kw (thn (ha pos pins s σ H _ I h) λus s1 ⟨vs,H1,I1,r,q⟩=>?_) he hplain
 show ay _ _ (evalAll ((do let v <- eval x X.env;eU pos;pure v)::[])) _ _ s1
 refine mP (ae (thn (hx pins s1 σ H1 _ I1 q) λv s2 ⟨y,H2,I2,ry,a,ns,e1,hq,q0,q1⟩=>ae (cH (wpAny_pure (nu ?_)))))
 subst e1
 obtain ⟨u0,rfl,ru⟩:=xU r
 cases ru
 show ay _ _ (call (.builtin "max") [.ref a] [(ai "default",v)]) _ _ s2
 obtain ⟨its,rv,pl,hz⟩:=I2.list hq
 have hI:=qH rv
 have hlen:=hI.length
 have hlt:a<s2.heap.objs.size:=by
  obtain ⟨o,n,e,_⟩:=id pl
  exact ar e
 have item:∀(i:Nat) (v:ag),its.toArray[i]? = some v->∃t,v=eE (ns.getD i 0) t:=λi v hP=>by
  have hP':its[i]? = some v:=by simpa using hP
  have hi:i<its.length:=(List.getElem?_eq_some_iff.mp hP').1
  obtain ⟨t',e⟩:=yU hI hi
  rw [e] at hP'
  refine ⟨t',?_⟩
  rw [ak,aa ∅]
  exact (aQ hP').symm
 have old:∀(h':Heap),(∀b o,b∉[s2.heap.objs.size]->b≠(s2.heap.push { cls:=eV "list_iterator",data:=fb #[b0 a,eE 0 0] }).objs.size->((s2.heap.push { cls:=eV "list_iterator",data:=fb #[b0 a,eE 0 0] }).push { cls:=eV "list",data:=rC #[] }).get? b=some o->h'.get? b=some o)->∀b o,s2.heap.get? b=some o->h'.get? b=some o:=λh' hk b o eo=>by
  have lb:=ar eo
  refine hk b o (λz=>absurd (List.mem_singleton.mp z) (aA lb)) ?_ (ah _ (ah _ eo))
  rw [bK]
  exact aA (bC lb)
 have Wk:=mK (prog:=X.prog) (w:=X.w) (show (X.A.in1).handled=none from I2.ok.hd hc) s2.heap.objs.size a (aA hlt) its.toArray
 refine kmb_tree F.kind_max F.plain_max F.entry_max (Ys (.ref a) v) ?_
 refine ae (ow (Yz v) (ae (wpAny_pure (ae (cM pl.isList (ae (bV ?_)))))))
 rw [ut]
 refine wpAny_pure ⟨dm dC _,ZH Wk (bt:=λi j=>decide (ns.getD i 0 > ns.getD j 0)) (CmpOf.ints_gt (λi=>ns.getD i 0) ?_) ?_ (Wk.frame _ _ _ ⟨⟨_,az _ rfl,rfl,rfl⟩,pl.isList.at λo e=>ah _ e⟩ λb _ o e=>ah _ e) (az _ rfl) (λe0 h' tk hk=>?_) λe0 v h' tk hv hk=>?_⟩
 all_goals try clear Wk
 ·exact item
 ·intro z
  rw [show (s2.heap.push { cls:=eV "list_iterator",data:=fb #[b0 a,eE 0 0] }).objs.size=s2.heap.objs.size+1 from bK _ _] at z
  rcases List.mem_cons.mp z with z | z
  ·exact absurd z (cq (dw _))
  ·exact absurd (List.mem_singleton.mp z) (cq (bC hlt))
 ·exact ⟨y,_,I2.kept (t':=tk) (λb o eo=>old h' hk b o eo),ry,q0 (List.eq_nil_of_length_eq_zero (by rw [<- hlen];simpa using e0))⟩
 ·obtain ⟨t',rfl⟩:=item _ _ hv
  obtain ⟨b1,b2⟩:=argBest_gt (λi=>ns.getD i 0) (its.toArray.size-1)
  have hsz:its.toArray.size=ns.length:=by rw [<- hlen];simp
  refine ⟨.int _,_,I2.kept (t':=tk) (λb o eo=>old h' hk b o eo),⟨t',rfl⟩,q1 _ ?_ λx hx=>?_⟩
  ·rw [ak,aa ∅]
   exact bz _
  ·obtain ⟨k,hk',rfl⟩:=List.mem_iff_getElem.mp hx
   have:=b2 k ∅
   rw [ak,aa hk'] at this
   exact this
end
end L2
end
section
namespace L2
open PySem.W
section
variable {X:Cx}
theorem yB (K:aj) (hca:X.calm=true) (hK:X.K=K:=by rfl):qu X (.type "dict") (λxs H Q=>∃(p:Addr) (kvs:List (Key×V)),xs=[.ref p]/\Rd H p (.dK kvs)/\∀(d:Addr) H',H d=none->H' d=some (.dK kvs)->jm H H'->Q (.ref d) H'):=by
 subst hK
 intro pins s σ H xs us Q I r h
 obtain ⟨p,kvs,rfl,hp0,k⟩:=h
 obtain ⟨u,rfl,ru⟩:=xU r
 cases ru
 obtain ⟨hz,lo,vs,kv,dd⟩:=yt I.hok hp0
 have hvl:kvs.length=vs.length:=b8 kv
 refine kt_call_dict (knd:=jw X.prog X.w) lo dd ∅ λh' hD hS=>?_
 have hf:=I.hok.fresh (ao s.heap.objs.size)
 have keep:∀b o,s.heap.get? b=some o->h'.get? b=some o:=λb o e=>(hS.2 b (aA (ar e))).trans (ah _ e)
 exact ⟨.ref _,upd H s.heap.objs.size (.dK kvs),I.laid (t':=s.toks) keep (ao _) (kD hz (beq_eq_false_iff_ne.mpr (c5 (aA I.big))) kv hD),rfl,k _ _ hf j4 (jm.new hf)⟩
theorem Xv:qu X (.builtin "len") (λxs H Q=>∃a kvs,xs=[V.ref a]/\Rd H a (.dK kvs)/\Q (.int kvs.length) H):=by
 intro pins s σ H xs us Q I r h
 obtain ⟨a,kvs,rfl,ha,q⟩:=h
 obtain ⟨u,rfl,ru⟩:=xU r
 cases ru
 exact UQ I ha λt s' I'=>⟨.int kvs.length,H,I',⟨t,rfl⟩,q⟩
end
end L2
end
section
namespace K31
open L2
local macro_rules | `(tactic| walk_at "hp")=>`(tactic| first | assumption | exact j4 | (rw [j5 (by first | assumption | (apply c5;assumption))];first | assumption | exact j4))
local macro_rules | `(tactic| walk_at "num")=>`(tactic| first | decide | omega)
local macro_rules | `(tactic| walk_at "rd1")=>`(tactic| first | refine ⟨_,rfl,?_⟩ | refine ⟨_,_,rfl,rfl,?_⟩ | refine fj (show Zn _ _ from lA ⟨by walk_at "num",by walk_at "num"⟩) ?_ | refine fj (show Zn _ _ from aU ⟨by walk_at "num",by walk_at "num"⟩) ?_ | refine fj (show V2 _ _ from ⟨by walk_at "num",by walk_at "num"⟩) ?_ | refine fj (show UO _ _ from ⟨by walk_at "num",by walk_at "num",by walk_at "num"⟩) ?_ | refine fj (show (0:Int)<_ by walk_at "num") ?_ | refine ⟨_,_,_,_,rfl,rfl,SqL.of (by walk_at "hp"),(by rfl),?_⟩ | refine ⟨_,_,_,_,rfl,rfl,SqT.of (by walk_at "hp"),(by rfl),?_⟩ | refine ⟨_,_,_,_,rfl,rfl,(by assumption),(by rfl),?_⟩ | refine ⟨_,_,_,_,rfl,rfl,(by walk_at "hp"),(by rfl),?_⟩ | refine ⟨rfl,?_⟩)
local macro_rules | `(tactic| walk_at "r")=>`(tactic| repeat walk_at "rd1")
local macro_rules | `(tactic| walk_at "s")=>`(tactic| exact ⟨rfl,rfl,rfl,by decide +kernel,rfl,by decide +kernel,by decide +kernel⟩)
local macro_rules | `(tactic| walk_at "k")=>`(tactic| decide +kernel)
local macro_rules | `(())=>`(by omega)
local macro_rules | `(∅)=>`(by decide +kernel)
local macro_rules | `(tactic| walk_at "w")=>`(tactic| (intro _ z;cases z))
local macro_rules | `(tactic| walk_at "z")=>`(tactic| (intro z;cases z))
local macro_rules | `(tactic| left)=>`(tactic| walk_at "r")
def top (i:Nat):Stmt:=PySem.Challenge.pw_firnfall_k31_whole_more_ice_reaches_no_l.main.body.getD i (.Pass ⟨0,0,0,0⟩)
abbrev xX:Stmt:=top 16
abbrev zK:Stmt:=top 17
abbrev yy:Stmt:=top 18
abbrev kN:Stmt:=top 19
abbrev qA:Stmt:=top 20
abbrev yP:Stmt:=top 21
abbrev uQ:Stmt:=top 22
abbrev xm:Stmt:=top 23
abbrev yk:Stmt:=top 24
abbrev zD:Stmt:=top 29
abbrev zE:Stmt:=top 30
abbrev uE:Stmt:=top 31
abbrev zM:Stmt:=top 36
abbrev zm:Stmt:=top 37
abbrev zt:Stmt:=top 38
abbrev qq:Stmt:=(xH (top 39) 0)
abbrev xf:Stmt:=(xH (top 39) 4)
abbrev qW:Stmt:=(xH (top 39) 5)
abbrev zq:Stmt:=(xH (top 39) 6)
abbrev zg:Stmt:=(xH (top 39) 7)
abbrev ya:Stmt:=(xH (top 39) 8)
abbrev zy:Stmt:=(xH (top 39) 10)
abbrev xy:Stmt:=(xH (top 39) 14)
abbrev yD:Stmt:=(xH (top 39) 16)
abbrev xh:Stmt:=top 41
abbrev yJ:Stmt:=top 42
abbrev gk:Stmt:=top 44
abbrev xI:Stmt:=top 45
abbrev vV:Stmt:=top 47
abbrev zW:Stmt:=top 48
abbrev yM:Stmt:=top 49
abbrev vM:Stmt:=top 50
abbrev zi:Stmt:=top 51
abbrev xW:Stmt:=top 52
abbrev jY:Stmt:=top 53
abbrev qQ:Stmt:=top 54
abbrev xA:Stmt:=top 55
abbrev zG:Stmt:=top 56
abbrev yK:Stmt:=top 57
abbrev xz:Stmt:=top 58
abbrev yu:Stmt:=top 59
abbrev yH:Stmt:=top 60
abbrev qC:Stmt:=top 61
abbrev zC:Stmt:=top 62
abbrev vi:Stmt:=top 63
section
variable {P:Program}{w:aV}{K:aj}{mg:Str->Option ag}{base:Heap}
abbrev Vl:Pos:=⟨47,28,47,49⟩
abbrev qi (H:Hp) (Pt:Addr):Prop:=Tab H Pt Vl (("lanes" : Str) ++ ".<locals>." ++ "<lambda>")
def QW:Sp:=λvs H Q _=>∃(i:Nat) (t:Int),vs=[.int i,.int t]/\Q (.bl (xq i t)) H
theorem J7:FnScope ["number","to"] ["number","to"] (j8 yy):=by walk_at "s"
theorem Jh {f:Addr}{fd:FuncData}(F:Fun K "leads_on" "leads_on" yy f fd):FnOk P w K mg base CX0 1 f fd ["number","to"] QW:=by
 refine F.ok J7 (λvs H Q E h=>?_) (λcdv A outer s H vs Q E hr h=>?_)
 ·obtain ⟨i,t,rfl,_⟩:=h
  rfl
 ·obtain ⟨i,t,rfl,k⟩:=h
  refine ⟨_,(j6 (qt (jK QQ (pv 0) j7 (qm _)) (j9 (jn (gf QQ (pv 1) (vg zF j7) (qm _)))) jI)
   (j9 (jn (zw qp vx j7 (pv 1) (pv 0))))),?_⟩
  have fin:∀b:Bool,b=xq i t->Q (.bl b) H:=λb e=>by rw [e];exact k
  left
  refine xg (λh1=>?_) (λh1=>?_)
  ·left
   have h1':i=0:=by have:=V.int.inj h1;omega
   refine fin _ ?_
   unfold xq
   rw [if_pos h1']
   exact decide_eq_decide.mpr ⟨λz=>V.int.inj z,λz=>by rw [z]⟩
  ·have h1':i≠0:=λz=>h1 (by rw [z];rfl)
   left
   refine xg (λh2=>?_) (λh2=>?_)
   ·left
    refine fin _ ?_
    unfold xq
    rw [if_neg h1']
    exact decide_eq_decide.mpr ⟨λz=>⟨h2,z⟩,λz=>z.2⟩
   ·refine fin _ ?_
    unfold xq
    rw [if_neg h1',decide_eq_false (λz=>h2 z.1)]
def QU:Sp:=λvs H Q _=>∃(i:Nat) (v:V) (r:Rch),vs=[.int i,v]/\kI H v r/\r.2.length<=100/\∀H',jm H H'->Q (.bl (okR i r)) H'
theorem zY:FnScope ["number","reach","to","slope"] ["number","reach"] (j8 zK):=by walk_at "s"
theorem JH {f:Addr}{fd:FuncData}{u0 u1:Tok}(nb:Nb2 mg) (g_MOST_HEIGHTS:mg "MOST_HEIGHTS" = some (.int 12 u0)) (g_GREATEST_HEIGHT:mg "GREATEST_HEIGHT" = some (.int 99 u1)) (c_leads_on:Cal P w K mg base 1 "leads_on" ["number","to"] QW) (F:Fun K "is_reach" "is_reach" zK f fd):FnOk P w K mg base CX0 2 f fd ["number","reach"] QU:=by
 refine F.ok zY (λvs H Q E h=>?_) (λcdv A outer s H vs Q E hr h=>?_)
 ·obtain ⟨i,v,r,rfl,_⟩:=h
  rfl
 ·obtain ⟨i,v,⟨t,hs⟩,rfl,⟨p,g,rfl,hp,hg⟩,h100,k⟩:=h
  have h100':hs.length<=100:=h100
  have fin:∀(b:Bool) (H':Hp),jm H H'->b=okR i (t,hs)->Q (.bl b) H':=λb H' sm e=>by rw [e];exact k H' sm
  refine ⟨_,(j6 (zr (pv 1) (qS (n:=2) K rfl (js (jb (i:=2) zY.nd rfl (aU rfl)) (js (jb (i:=3) zY.nd rfl (aU rfl)) qT))))
   (j6 (qt (PW.pt (Vi (xo (uZ (jd c_leads_on (hr.mono ⋯) rfl (j0 (pv 0) (j0 (pv 2) j2))))) (ZP (xo (xC qp qp j7 (jg (jf K) rfl nb.b_len aS (j0 (pv 3) j2)) (qU (v:=V.int 12) rfl g_MOST_HEIGHTS ⟨_,rfl⟩)))))) (j9 (jn Je)) jI)
   (j9 (jn (jg (yf K rfl) rfl nb.b_all pG (j0 (jN (osc:=(j8 zK)) (ON:=["number","reach","to","slope"]) (N:=["height"]) (own:=1) (caps:=[]) ⟨rfl,∅,∅,∅,rfl,∅⟩ rfl rfl rfl (vc K (pv 3)) (λ_ _ _ _ _=>(jb (i:=0) (show aY (["height"]:List Str) by decide +kernel) rfl (aU rfl))) (λ_ _ _ _ _=>jv) (λ_ _ _ _ _=>(zw qp qp j7 (pv 0) (qU (v:=V.int 99) rfl g_GREATEST_HEIGHT ⟨_,rfl⟩)))) j2)))))),?_⟩
  left
  refine ⟨p,_,rfl,SqT.of hp,rfl,?_⟩
  refine ⟨_,_,rfl,_,_,rfl,rfl,?_⟩
  left
  refine ⟨i,t,rfl,?_⟩
  left
  cases hl:xq i t with
  | false =>
   refine wz ?_
   left
   exact fin _ H (jm.refl H) (by unfold okR;rw [hl];rfl)
  | true =>
   refine UL ?_
   left
   refine ⟨_,_,rfl,.inr (SqT.of hg),?_⟩
   left
   rw [af]
   refine xg (λh1=>?_) (λh1=>?_)
   ·left
    refine zO (λh2=>?_) (λh2=>?_)
    ·left
     exact fin _ H (jm.refl H) (by unfold okR;rw [hl,decide_eq_false (λz=>h2 z.2)];rfl)
    ·left
     refine ⟨⟨_,SqT.of hg⟩,λacc hacc=>?_⟩
     refine gU (K:=K) (a:=g) (xs:=hs.map V.int) (acc:=acc) (λj σ H2=>∃x:Option V,σ=[x]/\H2 acc=some (.lst (((hs.take j).map λx=>decide (0<=x/\x<=99)).map V.bl))/\Ext acc H H2) ?_ ?_ ?_ ?_
     ·exact ⟨none,rfl,j4,Ext.put⟩
     ·rintro j σ H2 hj ⟨x,rfl,h3,e3⟩
      exact SqT.of (e3 _ _ hg (j1 hg hacc))
     ·rintro j v σ H2 hv ⟨x,rfl,h3,e3⟩
      obtain ⟨z,rfl⟩:=zZ hv
      have hz:hs[j]? = some z:=by
       rw [au] at hv
       cases e:hs[j]? with
       | none=>rw [e] at hv;cases hv
       | some y=>rw [e] at hv;cases hv;rfl
      have hj:j<hs.length:=(List.getElem?_eq_some_iff.mp hz).1
      have done:∀b:Bool,b=decide (0<=z/\z<=99)->∃ys,H2 acc=some (.lst ys)/\ys.length<sizeLine/\∃x:Option V,[some (V.int z)]=[x]/\upd H2 acc (.lst (ys++[V.bl b])) acc=some (.lst (((hs.take (j+1)).map λx=>decide (0<=x/\x<=99)).map V.bl))/\Ext acc H (upd H2 acc (.lst (ys++[V.bl b]))):=λb e=>by
       refine ⟨_,h3,by rw [af,af,aM];exact jc (),_,rfl,?_,e3.trans Ext.put⟩
       rw [j4,qj (λx=>decide (0<=x/\x<=99)) hs j z hz,aB,e]
       rfl
      left
      refine xg (λh4=>?_) (λh4=>?_)
      ·left
       exact done _ (decide_eq_decide.mpr ⟨λy=>⟨h4,y⟩,λy=>y.2⟩)
      ·exact done _ (decide_eq_false λy=>h4 y.1).symm
     ·rintro σ H2 ⟨x,rfl,h3,e3⟩
      rw [af,bb] at h3
      refine ⟨acc,_,rfl,SqL.of h3,?_⟩
      refine fin _ H2 (λc o hc=>e3 c o hc (j1 hc hacc)) ?_
      unfold okR
      rw [hl,decide_eq_true (show (1<=(hs.length:Int)/\(hs.length:Int)<=12) from ⟨h1,h2⟩),fE]
      rfl
   ·refine ⟨_,rfl,wz ?_⟩
    left
    exact fin _ H (jm.refl H) (by unfold okR;rw [hl,decide_eq_false (λz=>h1 z.1)];rfl)
def km (K:aj):Sp:=λvs H Q _=>∃(p:Addr) (xs:List V) (rs:List Rch) (h:Nat),vs=[.ref p,.int h]/\H p=some (.lst xs)/\jJ H xs rs/\qX rs/\h<rs.length/\rs.length<=100/\∀t H',H t=none->H' t=some (.tup ((qh rs h).map V.int))->jm H H'->Q (.ref t) H'
theorem xZ:FnScope ["reaches","head","way","reach"] ["reaches","head"] (j8 yP):=by walk_at "s"
theorem JA {f:Addr}{fd:FuncData}(nb:Nb2 mg) (F:Fun K "way_down" "way_down" yP f fd):FnOk P w K mg base CX0 1 f fd ["reaches","head"] (km K):=by
 refine F.ok xZ (λvs H Q E h=>?_) (λcdv A outer s H vs Q E hr h=>?_)
 ·obtain ⟨p,xs,rs,h,rfl,_⟩:=h
  rfl
 ·obtain ⟨p,xs,rs,h,rfl,hp,hrw,L,hh,h100,k⟩:=h
  refine ⟨_,(j6 (jy 2 xZ.nd (jQ j2))
   (j6 (jy 3 xZ.nd (pv 1))
   (j6 (Js bA (jK ZZ (pv 3) j7 (qm _)) (j6 (jT (yG K bY bO bP qG (pv 2) (j0 (pv 3) j2)))
   (j9 (jy 3 xZ.nd (jq (xu K) (jq (ja K) (pv 0) (pv 3) (λ_ _=>rfl)) j7 (λ_ _=>rfl))))))
   (j9 (jn (jP (xO K) rfl nb.b_tuple fk (j0 (pv 2) j2))))))),?_⟩
  left
  refine ⟨aJ _,λwy H1 hwy hwy1 s1=>?_⟩
  left
  have hlen:=hrw.length
  refine Jn (λσ H2=>∃(pre:List Int) (r:Int),σ=[some (.ref p),some (.int h),some (.ref wy),some (.int r)]/\H2 wy=some (.lst (pre.map V.int))/\Ext wy H1 H2 /\ -1<=r/\r<rs.length/\pre.length+(r+1).toNat<=100/\pre++(if r<0 then [] else qh rs r.toNat)=qh rs h) (λσ H2=>match σ with | [_,_,_,some (.int r)]=>(r+1).toNat | _=>0) ?_ ?_ ?_
  ·refine ⟨[],h,rfl,hwy1,Ext.refl,(),(),by simp;omega,?_⟩
   rw [if_neg ()]
   rfl
  ·rintro σ H2 ⟨pre,r,rfl,hw2,e2,r0,r1,rl,heq⟩
   left
   refine xg (λhr0=>?_) (λhr0=>?_)
   ·have hp2:H2 p=some (.lst xs):=e2 _ _ (s1 _ _ hp) (j1 hp hwy)
    have hrw2:jJ H2 xs rs:=hrw.keep ((ji.same s1).trans (ji.lst e2 hwy1))
    have hi:r.toNat<rs.length:=()
    obtain ⟨v,hv,q,g,rfl,hq,hg⟩:=hrw2.at (aa hi)
    have ht:=L.lt hi
    have ht2:=(uP (L _ hi)).2.1
    have et:=ko (aa hi)
    rw [et] at ht ht2
    generalize (rs[r.toNat]'hi).1=tt at ht ht2 et hq
    left
    refine ⟨.inl ⟨rfl,_,SqL.of hw2⟩,?_⟩
    left
    refine ⟨wy,_,_,rfl,rfl,hw2,by rw [af];exact jc (),?_⟩
    have hne:q≠wy:=jh hq hw2 (by walk_at "z")
    have hp3:upd H2 wy (.lst (pre.map V.int++[.int r])) p=some (.lst xs):=by rw [j5 (j1 hp hwy)];exact hp2
    have hq3:upd H2 wy (.lst (pre.map V.int++[.int r])) q=some (.tup [.int tt,.ref g]):=by rw [j5 hne];exact hq
    left
    refine ⟨_,_,_,_,rfl,rfl,SqL.of hp3,xl hr0 hv,?_⟩
    refine ⟨_,_,_,_,rfl,rfl,SqT.of hq3,rfl,?_⟩
    refine ⟨⟨pre++[r],tt,rfl,?_,e2.trans Ext.put,(),(),?_,?_⟩,?_⟩
    ·rw [j4,aB];rfl
    ·rw [ax,aW];omega
    ·rw [<- heq,if_neg (show ¬r<0 by omega),za L hi,et,fI]
     congr 1
     show r::_=_
     congr 1
     omega
    ·show (tt+1).toNat<(r+1).toNat
     omega
   ·rw [if_pos (),bo] at heq
    subst heq
    left
    refine ⟨wy,_,rfl,SqL.of hw2,λt H3 ht ht3 s3=>?_⟩
    exact k t H3 (s1.free (e2.free ht (λz=>by rw [z,hw2] at ht;cases ht))) ht3 (λc o hc=>s3 _ _ (e2 _ _ (s1 _ _ hc) (j1 hc hwy)))
  ·intro σ H2 Q1 Q2 hQ h
   obtain ⟨v,e,r⟩:=h
   obtain ⟨i,j,e1,e2,kk,e3,r⟩:=r
   exact ⟨v,e,i,j,e1,e2,kk,e3,hQ _ _ r⟩
def QG (K:aj):Sp:=λvs H Q _=>∃(p a:Addr) (xs:List V) (rs:List Rch) (way:List Int),vs=[.ref p,.ref a]/\H p=some (.lst xs)/\jJ H xs rs/\(∀r∈rs,r.2.length<=100)/\H a=some (.tup (way.map V.int))/\(∀r∈way,0<=r/\r<rs.length)/\way.length<=100/\∀H',jm H H'->Q (.int (ju rs way)) H'
theorem ui:FnScope ["reaches","way"] ["reaches","way"] (j8 xm):=by walk_at "s"
theorem uk {f:Addr}{fd:FuncData}(nb:Nb2 mg) (F:Fun K "count_places" "count_places" xm f fd):FnOk P w K mg base CX0 1 f fd ["reaches","way"] (QG K):=by
 refine F.ok ui (λvs H Q E h=>?_) (λcdv A outer s H vs Q E hr h=>?_)
 ·obtain ⟨p,a,xs,rs,way,rfl,_⟩:=h
  rfl
 ·obtain ⟨p,a,xs,rs,way,rfl,hp,hrw,h100,ha,hin,hwl,k⟩:=h
  have hlen:=hrw.length
  refine ⟨_,(j9 (jn (jg (Y3 K rfl) rfl nb.b_sum pH (j0 (jN (osc:=(j8 xm)) (ON:=["reaches","way"]) (N:=["reach","reaches"]) (own:=1) (caps:=[0]) ⟨rfl,∅,∅,∅,rfl,∅⟩ rfl rfl rfl (vc K (pv 1)) (λ_ _ _ _ _=>(jb (i:=0) (show aY (["reach","reaches"]:List Str) by decide +kernel) rfl (aU rfl))) (λ_ _ _ _ _=>jv) (λ_ _ _ _ _=>(jg (jf K) rfl nb.b_len aS (j0 (jq (xu K) (jq (ja K) (pv 1) (pv 0) (λ_ _=>rfl)) j7 (λ_ _=>rfl)) j2)))) j2)))),?_⟩
  left
  refine ⟨⟨_,SqT.of ha⟩,λacc hacc=>?_⟩
  refine gU (K:=K) (a:=a) (xs:=way.map V.int) (acc:=acc) (λj σ H2=>∃x:Option V,σ=[x,some (.ref p)]/\H2 acc=some (.lst (((way.take j).map λr=>((zh rs r.toNat).length:Int)).map V.int))/\Ext acc H H2) ?_ ?_ ?_ ?_
  ·exact ⟨none,rfl,j4,Ext.put⟩
  ·rintro j σ H2 hj ⟨x,rfl,h3,e3⟩
   exact SqT.of (e3 _ _ ha (j1 ha hacc))
  ·rintro j v σ H2 hv ⟨x,rfl,h3,e3⟩
   obtain ⟨r,rfl⟩:=zZ hv
   have hz:way[j]? = some r:=by
    rw [au] at hv
    cases e:way[j]? with
    | none=>rw [e] at hv;cases hv
    | some y=>rw [e] at hv;cases hv;rfl
   have hj:j<way.length:=(List.getElem?_eq_some_iff.mp hz).1
   have hr:=hin r (av hz)
   have hi:r.toNat<rs.length:=()
   obtain ⟨v,hv',q,g,rfl,hq,hg⟩:=(hrw.keep (ji.new e3 hacc)).at (aa hi)
   left
   refine ⟨_,_,_,_,rfl,rfl,SqL.of (e3 _ _ hp (j1 hp hacc)),xl hr.1 hv',?_⟩
   refine ⟨_,_,_,_,rfl,rfl,SqT.of hq,rfl,?_⟩
   refine ⟨_,_,rfl,.inr (SqT.of hg),?_⟩
   refine ⟨_,h3,by rw [af,af,aM];exact jc (),_,rfl,?_,e3.trans Ext.put⟩
   rw [j4,qj (λr:Int=>((zh rs r.toNat).length:Int)) way j r hz,aB,kK (aa hi),af]
   rfl
  ·rintro σ H2 ⟨x,rfl,h3,e3⟩
   rw [af,bb] at h3
   refine ⟨acc,_,rfl,SqL.of h3,by rw [af];omega,λn hn=>?_,?_⟩
   ·obtain ⟨r,hr,rfl⟩:=List.mem_map.mp hn
    have hb:=hin r hr
    have hi:r.toNat<rs.length:=()
    have:=h100 _ (bz hi)
    rw [kK (aa hi)]
    omega
   ·exact k H2 λc o hc=>e3 c o hc (j1 hc hacc)
def vj (K:aj) (Pt:Addr):Sp:=λvs H Q _=>∃(p:Addr) (xs:List V) (rs:List Rch),vs=[.ref p]/\H p=some (.lst xs)/\jJ H xs rs/\qX rs/\rs.length<=60/\qi H Pt/\∀l H' out ws,H l=none->H' l=some (.lst out)->zx H' out ws->jO rs ws->Ext Pt H H'->qi H' Pt->Q (.ref l) H'
theorem ux:FnScope ["reaches","entered","ways"] ["reaches"] (j8 qA):=by walk_at "s"
theorem Jx {α:Type}(l:List α) (d:α):((aO l.length).map λi=>l.getD i d)=l:=by
 apply iY
 ·simp
 ·intro i h1 h2
  simp [h2]
theorem wL {H:Hp}{vs:List V}{ws:List (List Int)}(h:zx H vs ws):∀ix:List Nat,(∀i∈ix,i<vs.length)->zx H (ix.map λi=>vs.getD i V.non) (ix.map λi=>ws.getD i [])
 | [],_=>.nil
 | i::ix,hb=>by
  refine .cons ?_ (wL h ix λj hj=>hb j (aD _ hj))
  have hi:=hb i aG
  obtain ⟨y,e2,a,e3,e4⟩:=Paired.get h (aa hi)
  refine ⟨a,?_,?_⟩
  ·show vs.getD i V.non=V.ref a
   rw [ak,aa hi];exact e3
  ·show H a=some (.tup ((ws.getD i []).map V.int))
   rw [ak,e2];exact e4
theorem hU {rs:List Rch}{roads:List (List Int)}{vs out:List V}{H H':Hp}(hr:roads=(jk rs).map (qh rs)) (hv:zx H vs roads) (k:ji H H') (hs:vy uo (λi=>(roads.getD i []).reverse) vs out):∃ws,zx H' out ws/\jO rs ws:=by
 obtain ⟨ix,hp,e,hpw⟩:=hs
 have hb:∀i∈ix,i<vs.length:=λi hi=>by have:=hp.mem_iff.mp hi;simpa using this
 refine ⟨ix.map λi=>roads.getD i [],by rw [e];exact (wL hv ix hb).keep k,?_,?_⟩
 ·have:=hp.map λi=>roads.getD i []
  rw [hv.length,Jx] at this
  rw [<- hr]
  exact this
 ·rw [bF]
  exact hpw
theorem Za {f c Pt:Addr}{oc:ag}{od an:Option Addr}{osl:Array (Option ag)}{kV doc pm ct:ag}(nb:Nb2 mg) (c_way_down:Cal P w K mg base 1 "way_down" ["reaches","head"] (km K)) (CH:PySem.W.CodeHd base c Pt) (hBm:Bm mg base)
  (l:K.lookup f=some ⟨oc,od,.func (bx "lanes" "lanes" (jL qA) (jF qA) (j8 qA) .none kV doc pm an (.ref c) ct),osl⟩) (cd:cx K (.ref c) "lanes" = true) :
  FnOk P w K mg base CX0 5 f (bx "lanes" "lanes" (jL qA) (jF qA) (j8 qA) .none kV doc pm an (.ref c) ct) ["reaches"] (vj K Pt):=by
 refine Fun.okC l cd ux (λvs H Q E h=>?_) (λA outer s H vs Q E hr h=>?_)
 ·obtain ⟨p,xs,rs,rfl,_⟩:=h
  rfl
 ·obtain ⟨p,xs,rs,rfl,hp,hrw,L,h60,hT,k⟩:=h
  have hlen:=hrw.length
  refine ⟨_,(j6 (vU (i:=1) ux.nd rfl (lA rfl) (jN (osc:=(j8 qA)) (ON:=["reaches","entered","ways"]) (N:=["to","slope"]) (own:=2) (caps:=[]) ⟨rfl,∅,∅,∅,rfl,∅⟩ rfl rfl rfl (qa K (pv 0)) (λ_ _ _ _ _=>(qS (n:=2) K rfl (js (jb (i:=0) (show aY (["to","slope"]:List Str) by decide +kernel) rfl (aU rfl)) (js (jb (i:=1) (show aY (["to","slope"]:List Str) by decide +kernel) rfl (aU rfl)) qT)))) (λ_ _ _ _ _=>jv) (λ_ _ _ _ _=>(pv 0))))
   (j6 (ym (j:=2) (osc:=(j8 qA)) (ON:=["reaches","entered","ways"]) (N:=["head","reaches","entered"]) (own:=1) (caps:=[0,1]) ⟨rfl,∅,∅,∅,rfl,∅⟩ ux.nd rfl (aU rfl) rfl rfl rfl (qd rfl nb.b_range (j0 (jg (jf K) rfl nb.b_len aS (j0 (pv 0) j2)) j2)) (λ_ _ _ _ _=>(jb (i:=0) (show aY (["head","reaches","entered"]:List Str) by decide +kernel) rfl (aU rfl))) (λ_ _ _ _ _=>(vv (jK (zp K) (pv 0) (pv 2) (by with_unfolding_all rfl)))) (λ_ _ _ _ _=>(jd c_way_down (hr.mono ⋯) rfl (j0 (pv 1) (j0 (pv 0) j2)))))
   (j9 (jn (Q3 (N:=["way"]) (x:="way") (k:=0) rfl nb.b_sorted (j0 (pv 2) j2) rfl CH hBm (hr.mono ⋯) (by walk_at "s") (λ_ _ _ _=>rfl) (λ_ _ _ _=>(YS K (pv 0)))))))),?_⟩
  left
  refine ⟨⟨_,SqL.of hp⟩,λen hen=>?_⟩
  refine jW (K:=K) (a:=p) (xs:=xs) (acc:=en) (λj σ H2=>∃x y:Option V,σ=[x,y]/\H2 en=some (.lst (((rs.take j).map (·.1)).map V.int))/\Ext en H H2) ?_ ?_ ?_ ?_
  ·exact ⟨none,none,rfl,j4,Ext.put⟩
  ·rintro j σ H2 hj ⟨x,y,rfl,h3,e3⟩
   exact SqL.of (e3 _ _ hp (j1 hp hen))
  ·rintro j v σ H2 hv ⟨x,y,rfl,h3,e3⟩
   obtain ⟨r,hr,q,g,rfl,hq,hg⟩:=(hrw.keep (ji.new e3 hen)).get hv
   have hj:j<rs.length:=(List.getElem?_eq_some_iff.mp hr).1
   left
   refine ⟨q,_,rfl,SqT.of hq,rfl,?_⟩
   refine ⟨_,_,rfl,_,_,rfl,rfl,?_⟩
   left
   refine ⟨_,h3,by rw [af,af,aM];exact jc (),_,_,rfl,?_,e3.trans Ext.put⟩
   rw [j4,qj (λr:Rch=>r.1) rs j r hr,aB]
   rfl
  ·rintro σ H2 ⟨x,y,rfl,h3,e3⟩
   rw [hlen,bb] at h3
   have hp2:=e3 _ _ hp (j1 hp hen)
   have hrw2:jJ H2 xs rs:=hrw.keep (ji.new e3 hen)
   have hT2:qi H2 Pt:=hT.extN hen e3
   left
   refine ⟨_,_,rfl,.inl (SqL.of hp2),?_⟩
   refine ⟨_,rfl,(),(),λwy hwy=>?_⟩
   rw [hlen]
   refine qw (lo:=0) (n:=((rs.length:Nat):Int).toNat) (acc:=wy) (λj σ H3=>∃(x:Option V) (vs:List V),σ=[x,some (.ref p),some (.ref en)]/\H3 wy=some (.lst vs)/\zx H3 vs (((aO j).filter (jE rs)).map (qh rs))/\Ext wy H2 H3/\vs.length<=j) ?_ ?_ ?_
   ·exact ⟨none,[],rfl,j4,.nil,Ext.put,ao _⟩
   ·rintro j σ H3 hj ⟨x,vs,rfl,h4,w4,e4,l4⟩
    have hj':j<rs.length:=()
    have hen4:=e4 _ _ h3 (j1 h3 hwy)
    have hp4:=e4 _ _ hp2 (j1 hp2 hwy)
    have hrw4:jJ H3 xs rs:=hrw2.keep (ji.new e4 hwy)
    have er:(aO (j+1)).filter (jE rs)=(aO j).filter (jE rs)++(if jE rs j=true then [j] else []):=by
     rw [cC,cn]
     congr 1
     by_cases z:jE rs j=true
     ·rw [if_pos z];simp [z]
     ·rw [if_neg z];simp [z]
    left
    refine ⟨en,_,rfl,.inl (SqL.of hen4),rfl,yg _,?_⟩
    left
    rw [nI,yW]
    refine zO (λhin=>?_) (λhin=>?_)
    ·have hb:jE rs j=true:=by unfold jE;rw [decide_eq_false (show ¬(j:Int)∈tos rs from hin)];rfl
     left
     refine ⟨p,xs,rs,j,rfl,hp4,hrw4,L,hj',(),λt H5 ht ht5 s5=>?_⟩
     have nt:t≠wy:=λz=>by rw [z,h4] at ht;cases ht
     have h5:=s5 _ _ h4
     refine ⟨vs,h5,jc (),_,vs++[.ref t],rfl,j4,?_,λc o hc n=>by rw [j5 n];exact s5 _ _ (e4 c o hc n),by rw [ax,aW];omega⟩
     rw [er,if_pos hb,aB]
     exact zx.keep (ji.lst Ext.put h5) (cW (w4.keep (ji.same s5)) ⟨t,rfl,ht5⟩)
    ·have hb:¬jE rs j=true:=by unfold jE;rw [decide_eq_true (show (j:Int)∈tos rs from hin)];exact aq
     refine ⟨_,vs,rfl,h4,?_,e4,()⟩
     rw [er,if_neg hb,bo]
     exact w4
   ·rintro σ H3 ⟨x,vs,rfl,h4,w4,e4,l4⟩
    have hT3:qi H3 Pt:=hT2.extN hwy e4
    obtain ⟨ps,hPt⟩:=hT3.ne
    rw [bg] at w4 l4
    have hvl:=w4.length
    left
    refine ⟨hT3,wy,vs,λi=>((((jk rs).map (qh rs)).getD i []).reverse),rfl,SqL.of h4,(),λi hi z=>?_,λH5 X5 i v hv=>?_,λlo H5 out hlo hlo5 X5 T5 hs=>?_⟩
    ·have hi2:i<(jk rs).length:=by
      rw [af] at hvl
      exact Nat.lt_of_lt_of_eq hi hvl
     have z2:((jk rs).map (qh rs)).getD i []=[]:=List.reverse_eq_nil_iff.mp z
     rw [ak,au,aa hi2] at z2
     exact Yp _ z2
    ·obtain ⟨y,e2,a,rfl,ha⟩:=Paired.get w4 hv
     have ha5:=ji.tbl X5 hPt _ _ ha
     left
     refine ⟨a,_,rfl,SqT.of ha5,λq H6 hq hq6 s6=>⟨s6,q,rfl,?_⟩⟩
     show H6 q=some (.tup (((((jk rs).map (qh rs)).getD i []).reverse).map V.int))
     rw [hq6,ak,show ((jk rs).map (qh rs))[i]? = some y from e2,<- og]
     rfl
    ·obtain ⟨ws,hw,hrd⟩:=hU (rs:=rs) rfl w4 (ji.tbl X5 hPt) hs
     have wyP:wy≠Pt:=jh h4 hPt (by walk_at "z")
     have enP:en≠Pt:=jh (e4 _ _ h3 (j1 h3 hwy)) hPt (by walk_at "z")
     have hlo3:H lo=none:=by
      have a1:H2 lo=none:=e4.free hlo (λz=>by rw [z,h4] at hlo;cases hlo)
      exact e3.free a1 (λz=>by rw [z,h3] at a1;cases a1)
     exact k lo H5 out ws hlo3 hlo5 hw hrd (λc o hc n=>X5 _ _ (e4 _ _ (e3 _ _ hc (j1 hc hen)) (j1 (e3 _ _ hc (j1 hc hen)) hwy)) n) T5
def ZJ (K:aj):Sp:=λvs H Q _=>∃(p wl:Addr) (xs out:List V) (rs:List Rch) (ws:List (List Int)),vs=[.ref p,.ref wl]/\H p=some (.lst xs)/\jJ H xs rs/\(∀r∈rs,r.2.length<=100)/\H wl=some (.lst out)/\zx H out ws/\jO rs ws/\qX rs/\rs.length<=60 /\
 ∀H',jm H H'->Q (.bl (decide (((jk rs).length:Int)<=6) && (jk rs).all λh=>decide (ju rs (qh rs h)<=30))) H'
theorem YL:FnScope ["reaches","ways"] ["reaches","ways"] (j8 kN):=by walk_at "s"
theorem YD {f:Addr}{fd:FuncData}{u0 u1:Tok}(nb:Nb2 mg) (g_MOST_LANES:mg "MOST_LANES" = some (.int 6 u0)) (g_LONGEST_LANE:mg "LONGEST_LANE" = some (.int 30 u1)) (c_count_places:Cal P w K mg base 1 "count_places" ["reaches","way"] (QG K)) (F:Fun K "fits" "fits" kN f fd):FnOk P w K mg base CX0 2 f fd ["reaches","ways"] (ZJ K):=by
 refine F.ok YL (λvs H Q E h=>?_) (λcdv A outer s H vs Q E hr h=>?_)
 ·obtain ⟨p,wl,xs,out,rs,ws,rfl,_⟩:=h
  rfl
 ·obtain ⟨p,wl,xs,out,rs,ws,rfl,hp,hrw,h100,hw,hws,hrd,L,h60,k⟩:=h
  have hwl:=hws.length
  have hrl:=hrd.length
  have hhl:(jk rs).length<=60:=by
   unfold jk
   exact aF (cf _ _) (by rw [bH];exact h60)
  have fin:∀(b:Bool) (H':Hp),jm H H'->b=(decide (((jk rs).length:Int)<=6) && (jk rs).all λh=>decide (ju rs (qh rs h)<=30))->Q (.bl b) H':=λb H' sm e=>by rw [e];exact k H' sm
  refine ⟨_,(j9 (jn (gm (gf qp (jg (jf K) rfl nb.b_len aS (j0 (pv 1) j2)) (qU (v:=V.int 6) rfl g_MOST_LANES ⟨_,rfl⟩) (qm _)) (Qq (jg (yf K rfl) rfl nb.b_all pG (j0 (jN (osc:=(j8 kN)) (ON:=["reaches","ways"]) (N:=["way","reaches"]) (own:=1) (caps:=[0]) ⟨rfl,∅,∅,∅,rfl,∅⟩ rfl rfl rfl (qa K (pv 1)) (λ_ _ _ _ _=>(jb (i:=0) (show aY (["way","reaches"]:List Str) by decide +kernel) rfl (aU rfl))) (λ_ _ _ _ _=>jv) (λ_ _ _ _ _=>(gf qp (jd c_count_places (hr.mono ⋯) rfl (j0 (pv 1) (j0 (pv 0) j2))) (qU (v:=V.int 30) rfl g_LONGEST_LANE ⟨_,rfl⟩) (qm _)))) j2)))))),?_⟩
  left
  refine ⟨_,_,rfl,.inl (SqL.of hw),?_⟩
  left
  refine xg (λh1=>?_) (λh1=>?_)
  ·left
   refine ⟨⟨_,SqL.of hw⟩,λacc hacc=>?_⟩
   refine jW (K:=K) (a:=wl) (xs:=out) (acc:=acc) (λj σ H2=>∃x:Option V,σ=[x,some (.ref p)]/\H2 acc=some (.lst (((ws.take j).map λw=>decide (ju rs w<=30)).map V.bl))/\Ext acc H H2) ?_ ?_ ?_ ?_
   ·exact ⟨none,rfl,j4,Ext.put⟩
   ·rintro j σ H2 hj ⟨x,rfl,h3,e3⟩
    exact SqL.of (e3 _ _ hw (j1 hw hacc))
   ·rintro j v σ H2 hv ⟨x,rfl,h3,e3⟩
    obtain ⟨wy,ew,a,rfl,ha⟩:=Paired.get (hws.keep (ji.new e3 hacc)) hv
    have hj:j<ws.length:=(List.getElem?_eq_some_iff.mp ew).1
    obtain ⟨hd,hhd,ewy⟩:=hrd.mem (av ew)
    have hdl:=x5 hhd
    have hwlen:wy.length<=100:=by rw [ewy];have:=yV L hd hdl;omega
    left
    refine ⟨p,a,xs,rs,wy,rfl,e3 _ _ hp (j1 hp hacc),hrw.keep (ji.new e3 hacc),h100,ha,by rw [ewy];exact xD L hd hdl,hwlen,λH4 s4=>?_⟩
    left
    refine ⟨_,s4 _ _ h3,by rw [af,af,aM];exact jc (),_,rfl,?_,λc o hc n=>by rw [j5 n];exact s4 _ _ (e3 c o hc n)⟩
    rw [j4,qj (λw=>decide (ju rs w<=30)) ws j wy ew,aB]
    rfl
   ·rintro σ H2 ⟨x,rfl,h3,e3⟩
    rw [hwl,bb] at h3
    refine ⟨acc,_,rfl,SqL.of h3,?_⟩
    refine fin _ H2 (λc o hc=>e3 c o hc (j1 hc hacc)) ?_
    rw [decide_eq_true (show ((jk rs).length:Int)<=6 by rw [<- hrl,<- hwl];exact h1),dW,hrd.all]
  ·refine fin _ H (jm.refl H) ?_
   rw [decide_eq_false (show ¬((jk rs).length:Int)<=6 by rw [<- hrl,<- hwl];exact h1)]
   rfl
def gP (K:aj) (Pt:Addr):Sp:=λvs H Q _=>∃(p:Addr) (xs:List V) (rs:List Rch),vs=[.ref p]/\H p=some (.lst xs)/\jJ H xs rs/\(∀r∈rs,r.2.length<=100)/\rs.length<=60/\qi H Pt/\∀H',Ext Pt H H'->qi H' Pt->Q (.bl (xY rs)) H'
theorem gv:FnScope ["reaches"] ["reaches"] (j8 xX):=by walk_at "s"
theorem hE {f Pt:Addr}{fd:FuncData}{u0:Tok}(nb:Nb2 mg) (g_MOST_REACHES:mg "MOST_REACHES" = some (.int 8 u0)) (c_is_reach:Cal P w K mg base 2 "is_reach" ["number","reach"] QU) (c_lanes:Cal P w K mg base 5 "lanes" ["reaches"] (vj K Pt)) (c_fits:Cal P w K mg base 2 "fits" ["reaches","ways"] (ZJ K)) (F:Fun K "is_valley" "is_valley" xX f fd):FnOk P w K mg base CX0 6 f fd ["reaches"] (gP K Pt):=by
 refine F.ok gv (λvs H Q E h=>?_) (λcdv A outer s H vs Q E hr h=>?_)
 ·obtain ⟨p,xs,rs,rfl,_⟩:=h
  rfl
 ·obtain ⟨p,xs,rs,rfl,hp,hrw,h100,h60,hT,k⟩:=h
  have hlen:=hrw.length
  have fin:∀(b:Bool) (H':Hp),Ext Pt H H'->qi H' Pt->b=xY rs->Q (.bl b) H':=λb H' x t e=>by rw [e];exact k H' x t
  refine ⟨_,(j6 (qt (xo (xC qp qp j7 (jg (jf K) rfl nb.b_len aS (j0 (pv 0) j2)) (qU (v:=V.int 8) rfl g_MOST_REACHES ⟨_,rfl⟩))) (j9 (jn Je)) jI)
   (j6 (qt (xo (uZ (jg (yf K rfl) rfl nb.b_all pG (j0 (jN (osc:=(j8 xX)) (ON:=["reaches"]) (N:=["number","reach"]) (own:=2) (caps:=[]) ⟨rfl,∅,∅,∅,rfl,∅⟩ rfl rfl rfl (kO K rfl nb.b_enumerate (j0 (pv 0) j2)) (λ_ _ _ _ _=>(qS (n:=2) K rfl (js (jb (i:=0) (show aY (["number","reach"]:List Str) by decide +kernel) rfl (aU rfl)) (js (jb (i:=1) (show aY (["number","reach"]:List Str) by decide +kernel) rfl (aU rfl)) qT)))) (λ_ _ _ _ _=>jv) (λ_ _ _ _ _=>(jd c_is_reach (hr.mono ⋯) rfl (j0 (pv 0) (j0 (pv 1) j2))))) j2)))) (j9 (jn Je)) jI)
   (j9 (jn (jd c_fits (hr.mono ⋯) rfl (j0 (pv 0) (j0 (jd c_lanes (hr.mono ⋯) rfl (j0 (pv 0) j2)) j2))))))),?_⟩
  left
  refine ⟨_,_,rfl,.inl (SqL.of hp),?_⟩
  left
  have no:¬(1<=(xs.length:Int)/\(xs.length:Int)<=8)->Q (.bl false) H:=λz=>fin _ H Ext.refl hT (by unfold xY;rw [decide_eq_false (by rw [<- hlen];exact z)];rfl)
  refine xg (λh1=>?_) (λh1=>?_)
  ·left
   refine zO (λh2=>?_) (λh2=>?_)
   ·left
    exact no λz=>h2 z.2
   ·have h18:decide (1<=(rs.length:Int)/\(rs.length:Int)<=8)=true:=decide_eq_true (by rw [<- hlen];exact ⟨h1,h2⟩)
    left
    refine ⟨⟨_,SqL.of hp⟩,λacc hacc=>?_⟩
    refine ki (K:=K) (a:=p) (xs:=xs) (acc:=acc) (λj σ H2=>∃x y:Option V,σ=[x,y]/\H2 acc=some (.lst ((((aO j)).map λi=>okR i (rs.getD i (-1,[]))).map V.bl))/\Ext acc H H2) ?_ ?_ ?_ ?_
    ·exact ⟨none,none,rfl,j4,Ext.put⟩
    ·rintro j σ H2 hj ⟨x,y,rfl,h3,e3⟩
     exact SqL.of (e3 _ _ hp (j1 hp hacc))
    ·rintro j v σ H2 t hv ⟨x,y,rfl,h3,e3⟩ ht
     have hacct:acc≠t:=λz=>by rw [z] at h3;rw [h3] at ht;cases ht
     obtain ⟨r,hr,hrow⟩:=(hrw.keep (ji.new e3 hacc)).get hv
     have hj:j<rs.length:=(List.getElem?_eq_some_iff.mp hr).1
     left
     refine ⟨t,_,rfl,SqT.of j4,rfl,?_⟩
     refine ⟨_,_,rfl,_,_,rfl,rfl,?_⟩
     left
     refine ⟨j,v,r,rfl,hrow.keep (ji.same (jm.new ht)),h100 r (av hr),λH4 s4=>?_⟩
     refine ⟨_,s4 _ _ ((jm.new ht) _ _ h3),by rw [af,af,bH];exact jc (),_,_,rfl,?_,λc o hc n=>by rw [j5 n];exact s4 _ _ ((jm.new ht) _ _ (e3 c o hc n))⟩
     rw [j4,cC,aB,aB]
     simp only [aN,eI]
     rw [ak,hr]
     rfl
    ·rintro σ H2 ⟨x,y,rfl,h3,e3⟩
     rw [hlen] at h3
     have sm:jm H H2:=λc o hc=>e3 c o hc (j1 hc hacc)
     refine ⟨acc,_,rfl,SqL.of h3,?_⟩
     left
     have eok:(((aO rs.length).map λi=>okR i (rs.getD i (-1,[]))).all λb=>b)=vQ rs:=by rw [fE];rfl
     rw [eok]
     cases hok:vQ rs with
     | false =>
      refine wz ?_
      left
      exact fin _ H2 (Ext.of_same sm) (hT.same sm) (by unfold xY;rw [hok,h18];rfl)
     | true =>
      refine UL ?_
      have L:=jS hok
      left
      refine ⟨p,xs,rs,rfl,sm _ _ hp,hrw.keep (ji.same sm),L,h60,hT.same sm,λl H3 out ws hl hl3 w3 r3 X3 T3=>?_⟩
      obtain ⟨ps,hPt⟩:=(hT.same sm).ne
      have hp3:=X3 _ _ (sm _ _ hp) (jh (sm _ _ hp) hPt (by walk_at "z"))
      refine ⟨p,l,xs,out,rs,ws,rfl,hp3,hrw.keep ((ji.same sm).trans (ji.tbl X3 hPt)),h100,hl3,w3,r3,L,h60,λH4 s4=>?_⟩
      exact fin _ H4 (((Ext.of_same sm).trans X3).trans (Ext.of_same s4)) (T3.same s4) (by unfold xY;rw [hok,h18];rfl)
  ·refine ⟨_,rfl,wz ?_⟩
   left
   exact no λz=>h1 z.1
theorem ve:FnScope ["_law_number","_law_turn","_law_one"] ["_law_number","_law_turn"] (j8 zW):=by walk_at "s"
theorem Zg {f:Addr}{fd:FuncData}(F:Fun K "_law_mixed" "_law_mixed" zW f fd):FnOk P w K mg base CX0 1 f fd ["_law_number","_law_turn"] QK:=by
 refine F.ok ve (λvs H Q E h=>?_) (λcdv A outer s H vs Q E hr h=>?_)
 ·obtain ⟨a,b,rfl,_⟩:=h
  rfl
 ·obtain ⟨a,b,rfl,k⟩:=h
  refine ⟨_,(j6 (jy 2 ve.nd (jo xp (jo jR (jo jR (jo vO (pv 0) j7) (jo vO (pv 1) j7)) j7) j7))
   (j9 (jn (jo yT (jo xp (jo jR (jo jR (jo vO (pv 2) (jo jR (jo xp (pv 2) j7) j7)) (jo vO (pv 1) j7)) (jo xp (jo yT (pv 0) j7) j7)) j7) j7)))),?_⟩
  left
  exact k _
theorem y3:FnScope ["_law_box_here","_law_size","_law_left","_law_cell"] ["_law_box_here","_law_size"] (j8 yM):=by walk_at "s"
theorem Yo {f:Addr}{fd:FuncData}(nb:Nb mg) (c_law_mixed:Cal P w K mg base 1 "_law_mixed" ["_law_number","_law_turn"] QK) (F:Fun K "_law_take" "_law_take" yM f fd):FnOk P w K mg base CX0 2 f fd ["_law_box_here","_law_size"] xk:=by
 refine F.ok y3 (λvs H Q E h=>?_) (λcdv A outer s H vs Q E hr h=>?_)
 ·obtain ⟨L,b,n,rfl,_⟩:=h
  rfl
 ·obtain ⟨L,b,n,rfl,B,⟨hn,hn2⟩,k⟩:=h
  obtain ⟨ns,a,r,c,d,hb,hL,hS,ha⟩:=B
  refine ⟨_,(j6 (zr (jo jR (jq (ja K) (pv 0) j7 (λ_ _=>rfl)) j7) (uS (pv 0) j7 y7))
   (j6 (qt (jK Zo (jq (ja K) (pv 0) j7 (λ_ _=>rfl)) j7 (qm _)) (j6 (jy 2 y3.nd (jq (ja K) (pv 0) j7 (λ_ _=>rfl)))
   (j6 (zr (jo yT (pv 2) (pv 1)) (uS (pv 0) j7 y7))
   (j9 (jn (jo xp (pv 2) (pv 1)))))) jI)
   (j6 (qt (jK ZZ (jq (ja K) (pv 0) j7 (λ_ _=>rfl)) (jg (jf K) rfl nb.b_len aS (j0 (jq (ja K) (pv 0) j7 (λ_ _=>rfl)) j2)) (qm _)) (j9 (jn (jo xp (jd c_law_mixed (hr.mono ⋯) rfl (j0 (jq (ja K) (pv 0) j7 (λ_ _=>rfl)) (j0 (jq (ja K) (pv 0) j7 (λ_ _=>rfl)) j2))) (pv 1)))) jI)
   (j6 (jy 3 y3.nd (jq (ja K) (jq (ja K) (pv 0) j7 (λ_ _=>rfl)) (jq (ja K) (pv 0) j7 (λ_ _=>rfl)) (λ_ _=>rfl)))
   (j6 (zr (jo jR (jq (ja K) (pv 0) j7 (λ_ _=>rfl)) j7) (uS (pv 0) j7 y7))
   (j6 (qt (jK vx (pv 3) (jo kS j7 j7) (qm _)) (j9 (jn (jo xp (jd c_law_mixed (hr.mono ⋯) rfl (j0 (pv 3) (j0 (jq (ja K) (pv 0) j7 (λ_ _=>rfl)) j2))) (pv 1)))) jI)
   (j6 (zr (jo yT (pv 3) (pv 1)) (uS (pv 0) j7 y7))
   (j9 (jn (jo xp (pv 3) (pv 1))))))))))),?_⟩
  left
  refine xg (λh1=>?_) (λh1=>?_)
  ·left
   exact k _ _ (di _ ()) (cG _ hn) ⟨ns,_,_,_,_,j4,hL,(Ext.put.trans Ext.put) _ _ hS hL,ha⟩ (Ext.put.trans Ext.put)
  ·have hS1:∀o,SqL K (upd H b o) L (ns.map V.int):=λo=>SqL.of (Ext.put _ _ hS hL)
   left
   refine ⟨_,_,rfl,.inl (hS1 _),?_⟩
   left
   refine xg (λh2=>?_) (λh2=>?_)
   ·left
    refine ⟨_,_,rfl,λz=>?_⟩
    left
    exact k _ _ (di _ ()) (cG _ hn) ⟨ns,_,_,_,_,j4,hL,Ext.put _ _ hS hL,ha⟩ Ext.put
   ·have h3:a<ns.length:=by
     rw [af] at h2
     omega
    obtain ⟨z,hz⟩:=xL ha h3
    left
    refine ⟨_,_,_,_,rfl,rfl,hS1 _,hz,?_⟩
    left
    refine xg (λh4=>?_) (λh4=>?_)
    ·left
     refine ⟨_,_,rfl,λz=>?_⟩
     left
     exact k _ _ (di _ ()) (cG _ hn) ⟨ns,_,_,_,_,j4,hL,(Ext.put.trans Ext.put) _ _ hS hL,()⟩ (Ext.put.trans Ext.put)
    ·left
     exact k _ _ (di _ ()) (cG _ hn) ⟨ns,_,_,_,_,j4,hL,((Ext.put.trans Ext.put).trans Ext.put) _ _ hS hL,()⟩ ((Ext.put.trans Ext.put).trans Ext.put)
theorem zB:FnScope ["_law_script","_law_seed","_law_cell"] ["_law_script"] (j8 vV):=by walk_at "s"
theorem U4 {f:Addr}{fd:FuncData}(nb:Nb mg) (F:Fun K "_law_box" "_law_box" vV f fd):FnOk P w K mg base CX0 1 f fd ["_law_script"] (Zu K):=by
 refine F.ok zB (λvs H Q E h=>?_) (λcdv A outer s H vs Q E hr h=>?_)
 ·obtain ⟨a,ns,rfl,_⟩:=h
  rfl
 ·obtain ⟨a,ns,rfl,hS,k⟩:=h
  refine ⟨_,(j6 (jy 1 zB.nd j7)
   (j6 (xF bA rfl (qa K (pv 0)) (jb (i:=2) zB.nd rfl (aU rfl)) (j9 (jy 1 zB.nd (jo xp (jo jR (jo jR (jo vO (pv 1) j7) (jo xp (pv 2) j7)) j7) j7))))
   (j9 (jn (jQ (j0 (jP (qo K) rfl nb.b_list c6 (j0 (pv 0) j2)) (j0 j7 (j0 j7 (j0 j7 (j0 (pv 1) j2)))))))))),?_⟩
  left
  refine ⟨⟨_,hS⟩,gQ (K:=K) (a:=a) (xs:=ns.map V.int) (λi σ H2=>∃(seed:Int) (v:Option V),σ=[some (.ref a),some (.int seed),v]/\H2=H) ⟨_,_,rfl,rfl⟩ (λi σ H2 _ ⟨_,_,_,e⟩=>by rw [e];exact hS) ?_ ?_⟩
  ·rintro i y σ H2 hi ⟨seed,v,rfl,rfl⟩
   obtain ⟨z,rfl⟩:=zZ hi
   left
   exact ⟨_,_,rfl,rfl⟩
  ·rintro σ H2 ⟨seed,v,rfl,rfl⟩
   left
   refine ⟨a,_,rfl,.inl hS,λL H3 hL hL3 s3=>?_⟩
   left
   refine ⟨by show 5<=sizeLine;decide,λb H4 hb hb4 s4=>?_⟩
   exact k L b _ (s3.free hb) ⟨ns,_,_,_,_,hb4,j1 hL3 hb,s4 _ _ hL3,dH _⟩ (s3.trans s4)
def good (t:T3):Bool:=decide (0<=t.1/\t.1<=100/\0<=t.2.1/\t.2.1<=9/\0<=t.2.2/\t.2.2<=9)
def gr (ts:List T3):Bool:=decide (1<=(ts.length:Int)/\(ts.length:Int)<=12) && ts.all good
theorem Ve {ts:List T3}(h:¬(1<=(ts.length:Int)/\(ts.length:Int)<=12)):gr ts=false:=by unfold gr;rw [decide_eq_false h];rfl
theorem VB {ts:List T3}(h:1<=(ts.length:Int)/\(ts.length:Int)<=12):gr ts=(ts.map good).all λb=>b:=by
 unfold gr
 rw [decide_eq_true h,dW,fE]
 rfl
def JW:Sp:=λvs H Q _=>∃(p:Addr) (t:T3),vs=[.ref p]/\H p=some (zo t)/\Q (.bl (good t)) H
local macro_rules | `(tactic| walk_at "forks")=>`(tactic| (walk_at "r";first | (refine xg (fun _=>?_) (fun _=>?_) <;> walk_at "forks") | skip))
theorem xw:FnScope ["row","line","snow","sun"] ["row"] (j8 zD):=by walk_at "s"
theorem ww {f:Addr}{fd:FuncData}{u0 u1:Tok}(g_HIGHEST_LINE:mg "HIGHEST_LINE" = some (.int 100 u0)) (g_MOST_HANDS:mg "MOST_HANDS" = some (.int 9 u1)) (F:Fun K "is_weather" "is_weather" zD f fd):FnOk P w K mg base CX0 1 f fd ["row"] JW:=by
 refine F.ok xw (λvs H Q E h=>?_) (λcdv A outer s H vs Q E hr h=>?_)
 ·obtain ⟨p,t,rfl,_⟩:=h
  rfl
 ·obtain ⟨p,⟨l,sn,u⟩,rfl,hp,k⟩:=h
  refine ⟨_,(j6 (zr (pv 0) (qS (n:=3) K rfl (js (jb (i:=1) xw.nd rfl (aU rfl)) (js (jb (i:=2) xw.nd rfl (aU rfl)) (js (jb (i:=3) xw.nd rfl (aU rfl)) qT)))))
   (j9 (jn (gm (zw qp qp j7 (pv 1) (qU (v:=V.int 100) rfl g_HIGHEST_LINE ⟨_,rfl⟩)) (gm (zw qp qp j7 (pv 2) (qU (v:=V.int 9) rfl g_MOST_HANDS ⟨_,rfl⟩)) (Qq (zw qp qp j7 (pv 3) (qU (v:=V.int 9) rfl g_MOST_HANDS ⟨_,rfl⟩)))))))),?_⟩
  left
  refine ⟨p,_,rfl,SqT.of hp,rfl,?_⟩
  refine ⟨_,_,rfl,_,_,rfl,_,_,rfl,rfl,?_⟩
  walk_at "forks"
  all_goals
   refine Eq.mp (congrArg (λz=>Q (V.bl z) H) ?_) k
   unfold good
   dsimp only at *
   first | (apply decide_eq_false;omega) | (apply decide_eq_decide.mpr;omega)
theorem Ji:FnScope ["rows"] ["rows"] (j8 zE):=by walk_at "s"
def QR (K:aj):Sp:=λvs H Q _=>∃(p:Addr) (xs:List V) (ts:List T3),vs=[.ref p]/\H p=some (.lst xs)/\qg H xs ts/\ts.length<=1000/\∀H',jm H H'->Q (.bl (gr ts)) H'
theorem Jc {f:Addr}{fd:FuncData}{u0:Tok}(nb:Nb mg) (g_MOST_ROWS:mg "MOST_ROWS" = some (.int 12 u0)) (c_is_weather:Cal P w K mg base 1 "is_weather" ["row"] JW) (F:Fun K "is_round" "is_round" zE f fd):FnOk P w K mg base CX0 2 f fd ["rows"] (QR K):=by
 refine F.ok Ji (λvs H Q E h=>?_) (λcdv A outer s H vs Q E hr h=>?_)
 ·obtain ⟨p,xs,ts,rfl,_⟩:=h
  rfl
 ·obtain ⟨p,xs,ts,rfl,hp,hr3,h1000,k⟩:=h
  have hlen:=hr3.length
  refine ⟨_,(j9 (jn (gm (zw qp qp j7 (jg (jf K) rfl nb.b_len aS (j0 (pv 0) j2)) (qU (v:=V.int 12) rfl g_MOST_ROWS ⟨_,rfl⟩)) (Qq (jg (yf K rfl) rfl nb.b_all pG (j0 (jN (osc:=(j8 zE)) (ON:=["rows"]) (N:=["row"]) (own:=1) (caps:=[]) ⟨rfl,∅,∅,∅,rfl,∅⟩ rfl rfl rfl (qa K (pv 0)) (λ_ _ _ _ _=>(jb (i:=0) (show aY (["row"]:List Str) by decide +kernel) rfl (aU rfl))) (λ_ _ _ _ _=>jv) (λ_ _ _ _ _=>(jd c_is_weather (hr.mono ⋯) rfl (j0 (pv 0) j2)))) j2)))))),?_⟩
  left
  refine ⟨_,_,rfl,.inl (SqL.of hp),?_⟩
  left
  refine xg (λh1=>?_) (λh1=>?_)
  ·left
   refine xg (λh2=>?_) (λh2=>?_)
   ·left
    refine ⟨⟨_,SqL.of hp⟩,λacc hacc=>?_⟩
    refine jW (K:=K) (a:=p) (xs:=xs) (acc:=acc) (λi σ H2=>∃x:Option V,σ=[x]/\H2 acc=some (.lst (((ts.take i).map good).map V.bl))/\Ext acc H H2) ?_ ?_ ?_ ?_
    ·exact ⟨none,rfl,j4,Ext.put⟩
    ·rintro i σ H2 hi ⟨x,rfl,h3,e3⟩
     exact SqL.of (e3 _ _ hp (j1 hp hacc))
    ·rintro i v σ H2 hv ⟨x,rfl,h3,e3⟩
     obtain ⟨t,ht,q,rfl,hq⟩:=hr3.get hv
     have hi:i<ts.length:=(List.getElem?_eq_some_iff.mp ht).1
     left
     refine ⟨q,t,rfl,e3 _ _ hq (j1 hq hacc),?_⟩
     refine ⟨_,h3,by rw [af,af,aM];exact jc (),_,rfl,?_,e3.trans Ext.put⟩
     rw [j4,qj good ts i t ht,aB]
     rfl
    ·rintro σ H2 ⟨x,rfl,h3,e3⟩
     rw [hlen,bb] at h3
     refine ⟨acc,ts.map good,rfl,SqL.of h3,?_⟩
     have k2:=k H2 λc o hc=>e3 c o hc (j1 hc hacc)
     rw [VB (by rw [hlen] at h1 h2;exact ⟨h1,h2⟩)] at k2
     exact k2
   ·left
    have k2:=k H (jm.refl H)
    rw [Ve (by rw [hlen] at h2;intro z;exact h2 z.2)] at k2
    exact k2
  ·left
   have k2:=k H (jm.refl H)
   rw [Ve (by rw [hlen] at h1;intro z;exact h1 z.1)] at k2
   exact k2
def vD:Sp:=λvs H Q _=>∃(L b:Addr),vs=[.ref b]/\jM L H b/\∀(p:Addr) (H':Hp) (t:T3),jM L H' b->Ext b H H'->H' p=some (zo t)->good t=true->Q (.ref p) H'
theorem y9:FnScope ["_law_box_here","_law_line"] ["_law_box_here"] (j8 zi):=by walk_at "s"
theorem five {v3 v1 v2:Int}(a:0<=v3) (b:v3<5) (c:0<=v1) (d:v1<20) (e:0<=v2) (g:v2<101):∃ln,atI [V.int (40+v1),V.int v2,V.int 0,V.int 100,V.int 50] v3=some (V.int ln)/\0<=ln/\ln<=100:=by
 have h:v3=0\/v3=1\/v3=2\/v3=3\/v3=4:=()
 rcases h with rfl | rfl | rfl | rfl | rfl
 ·exact ⟨40+v1,rfl,(),()⟩
 ·exact ⟨v2,rfl,(),()⟩
 ·exact ⟨0,rfl,(),()⟩
 ·exact ⟨100,rfl,(),()⟩
 ·exact ⟨50,rfl,(),()⟩
theorem JN {f:Addr}{fd:FuncData}(c_law_take:Cal P w K mg base 2 "_law_take" ["_law_box_here","_law_size"] xk) (F:Fun K "_law_weather" "_law_weather" zi f fd):FnOk P w K mg base CX0 3 f fd ["_law_box_here"] vD:=by
 refine F.ok y9 (λvs H Q E h=>?_) (λcdv A outer s H vs Q E hr h=>?_)
 ·obtain ⟨L,b,rfl,_⟩:=h
  rfl
 ·obtain ⟨L,b,rfl,B,k⟩:=h
  refine ⟨_,(j6 (jy 1 y9.nd (jq (ja K) (jQ (j0 (jo jR j7 (jd c_law_take (hr.mono ⋯) rfl (j0 (pv 0) (j0 j7 j2)))) (j0 (jd c_law_take (hr.mono ⋯) rfl (j0 (pv 0) (j0 j7 j2))) (j0 j7 (j0 j7 (j0 j7 j2)))))) (jd c_law_take (hr.mono ⋯) rfl (j0 (pv 0) (j0 j7 j2))) (λ_ _=>rfl)))
   (j9 (jn (zN (j0 (pv 1) (j0 (jd c_law_take (hr.mono ⋯) rfl (j0 (pv 0) (j0 j7 j2))) (j0 (jd c_law_take (hr.mono ⋯) rfl (j0 (pv 0) (j0 j7 j2))) j2))))))),?_⟩
  left
  refine ⟨L,b,_,rfl,B,⟨⋯,⋯⟩,λv1 H1 p1 q1 B1 X1=>?_⟩
  left
  refine ⟨L,b,_,rfl,B1,⟨⋯,⋯⟩,λv2 H2 p2 q2 B2 X2=>?_⟩
  refine ⟨by show 5<=sizeLine;decide,λq Hq hq hqq sq=>?_⟩
  left
  refine ⟨L,b,_,rfl,B2.same sq,⟨⋯,⋯⟩,λv3 H3 p3 q3 B3 X3=>?_⟩
  have hq3:=X3 _ _ hqq (B2.ne hq)
  obtain ⟨ln,hln,l0,l1⟩:=five p3 q3 p1 q1 p2 q2
  refine ⟨_,_,_,_,rfl,rfl,SqL.of hq3,hln,?_⟩
  left
  refine ⟨L,b,_,rfl,B3,⟨⋯,⋯⟩,λv4 H4 p4 q4 B4 X4=>?_⟩
  left
  refine ⟨L,b,_,rfl,B4,⟨⋯,⋯⟩,λv5 H5 p5 q5 B5 X5=>?_⟩
  refine ⟨by show 3<=sizeLine;decide,λp Hp hp hpp sp=>?_⟩
  exact k p _ (ln,v4,v5) (B5.same sp) ((((((X1.trans X2).trans (Ext.of_same sq)).trans X3).trans X4).trans X5).trans (Ext.of_same sp)) hpp (decide_eq_true ⟨l0,l1,p4,(show v4<=9 by omega),p5,(show v5<=9 by omega)⟩)
def uh:Sp:=λvs H Q _=>∃(L b:Addr),vs=[.ref b]/\jM L H b/\∀(p:Addr) (H':Hp) (xs:List V) (ts:List T3),jM L H' b->Ext b H H'->H p=none->H' p=some (.lst xs)->qg H' xs ts->(1<=ts.length/\ts.length<=12)->ts.all good=true->Q (.ref p) H'
theorem kH:FnScope ["_law_box_here"] ["_law_box_here"] (j8 xW):=by walk_at "s"
theorem UY {v:Int}(a:0<=v) (b:v<3):∃n,atI [V.int 1,V.int 3,V.int 12] v=some (V.int n)/\0<n/\n<=12:=by
 have h:v=0\/v=1\/v=2:=()
 rcases h with rfl | rfl | rfl
 ·exact ⟨1,rfl,(),()⟩
 ·exact ⟨3,rfl,(),()⟩
 ·exact ⟨12,rfl,(),()⟩
theorem ZK {f:Addr}{fd:FuncData}(nb:Nb mg) (c_law_take:Cal P w K mg base 2 "_law_take" ["_law_box_here","_law_size"] xk) (c_law_weather:Cal P w K mg base 3 "_law_weather" ["_law_box_here"] vD) (F:Fun K "_law_round" "_law_round" xW f fd):FnOk P w K mg base CX0 4 f fd ["_law_box_here"] uh:=by
 refine F.ok kH (λvs H Q E h=>?_) (λcdv A outer s H vs Q E hr h=>?_)
 ·obtain ⟨L,b,rfl,_⟩:=h
  rfl
 ·obtain ⟨L,b,rfl,B,k⟩:=h
  refine ⟨_,(j9 (jn (jN (osc:=(j8 xW)) (ON:=["_law_box_here"]) (N:=["_law_turn","_law_box_here"]) (own:=1) (caps:=[0]) ⟨rfl,∅,∅,∅,rfl,∅⟩ rfl rfl rfl (qd rfl nb.b_range (j0 (jo jR j7 (jd c_law_take (hr.mono ⋯) rfl (j0 (pv 0) (j0 (jq (ja K) (jQ (j0 j7 (j0 j7 (j0 j7 j2)))) (jd c_law_take (hr.mono ⋯) rfl (j0 (pv 0) (j0 j7 j2))) (λ_ _=>rfl)) j2)))) j2)) (λ_ _ _ _ _=>(jb (i:=0) (show aY (["_law_turn","_law_box_here"]:List Str) by decide +kernel) rfl (aU rfl))) (λ_ _ _ _ _=>jv) (λ_ _ _ _ _=>(jd c_law_weather (hr.mono ⋯) rfl (j0 (pv 1) j2)))))),?_⟩
  left
  refine ⟨by show 3<=sizeLine;decide,λq Hq hq hqq sq=>?_⟩
  left
  refine ⟨L,b,_,rfl,B.same sq,⟨⋯,⋯⟩,λv1 H1 p1 q1 B1 X1=>?_⟩
  obtain ⟨n,hn,n0,n1⟩:=UY p1 q1
  refine ⟨_,_,_,_,rfl,rfl,SqL.of (X1 _ _ hqq (B.ne hq)),hn,?_⟩
  refine ⟨L,b,_,rfl,B1,⟨n0,()⟩,λv2 H2 p2 q2 B2 X2=>?_⟩
  refine ⟨_,_,rfl,rfl,?_⟩
  refine ⟨1+v2,rfl,(),(),λacc hacc=>?_⟩
  have nb1:=B2.ne hacc
  have nb2:=B2.neL hacc
  have hfree:∀a,H2 a=none->a≠b->H a=none:=λa n nb=>jm.free sq (X1.free (X2.free n nb) nb)
  refine qw (lo:=0) (n:=(1+v2).toNat) (acc:=acc) (λi σ H3=>∃(x:Option V) (xs:List V) (ts:List T3),σ=[x,some (.ref b)]/\jM L H3 b/\(∀c o,H2 c=some o->c≠b->H3 c=some o)/\H3 acc=some (.lst xs)/\qg H3 xs ts/\ts.length=i/\ts.all good=true) ?_ ?_ ?_
  ·exact ⟨none,[],[],rfl,B2.put nb1 nb2,λc o hc n=>Ext.put _ _ hc (j1 hc hacc),j4,.nil,rfl,rfl⟩
  ·rintro i σ H3 hi ⟨x,xs,ts,rfl,B3,ks,h3,r3,hl,hg⟩
   left
   refine ⟨L,b,rfl,B3,λp H4 t B4 X4 hp ht=>?_⟩
   have h4:=X4 _ _ h3 nb1
   have r4:qg H4 xs ts:=r3.imp λp t e=>X4 _ _ e (B3.ne_tup e)
   have hlen:=r4.length
   refine ⟨xs,h4,jc (),_,xs++[.ref p],ts++[t],rfl,B4.put nb1 nb2,λc o hc n=>Ext.put _ _ (X4 _ _ (ks c o hc n) n) (j1 hc hacc),j4,?_,by rw [ax,hl];rfl,by rw [List.all_append,hg];simp [ht]⟩
   exact qg.imp (r4.snoc ⟨p,rfl,hp⟩) λq t e=>Ext.put _ _ e (jh e h4 (by walk_at "z"))
  ·rintro σ H3 ⟨x,xs,ts,rfl,B3,ks,h3,r3,hl,hg⟩
   exact k acc H3 xs ts B3 (λc o hc n=>ks c o (X2 _ _ (X1 _ _ (sq _ _ hc) n) n) n) (hfree acc hacc nb1) h3 r3 () hg
def yp:Sp:=λvs H Q _=>∃(L b:Addr) (tp sz:Int),vs=[.ref b,.int tp,.int sz]/\jM L H b/\tp<=99/\0<=sz/\sz<=100/\∀p H' (hs:List Int),jM L H' b->Ext b H H'->H p=none->H' p=some (.lst (hs.map V.int))->(hs.length:Int)=sz->(∀x∈hs,0<=x/\x<=99)->Q (.ref p) H'
theorem qJ:FnScope ["_law_box_here","_law_top","_law_size","_law_pick","_law_step"] ["_law_box_here","_law_top","_law_size"] (j8 jY):=by walk_at "s"
theorem um {f:Addr}{fd:FuncData}(nb:Nb2 mg) (c_law_take:Cal P w K mg base 2 "_law_take" ["_law_box_here","_law_size"] xk) (F:Fun K "_law_ground_drawn" "_law_ground_drawn" jY f fd):FnOk P w K mg base CX0 3 f fd ["_law_box_here","_law_top","_law_size"] yp:=by
 refine F.ok qJ (λvs H Q E h=>?_) (λcdv A outer s H vs Q E hr h=>?_)
 ·obtain ⟨L,b,tp,sz,rfl,_⟩:=h
  rfl
 ·obtain ⟨L,b,tp,sz,rfl,B,htp,h0,h1,k⟩:=h
  refine ⟨_,(j6 (jy 3 qJ.nd (jd c_law_take (hr.mono ⋯) rfl (j0 (pv 0) (j0 j7 j2))))
   (j6 (qt (jK QQ (pv 3) j7 (qm _)) (j9 (jn (jN (osc:=(j8 jY)) (ON:=["_law_box_here","_law_top","_law_size","_law_pick","_law_step"]) (N:=["_law_turn","_law_box_here"]) (own:=1) (caps:=[0]) ⟨rfl,∅,∅,∅,rfl,∅⟩ rfl rfl rfl (qd rfl nb.b_range (j0 (pv 2) j2)) (λ_ _ _ _ _=>(jb (i:=0) (show aY (["_law_turn","_law_box_here"]:List Str) by decide +kernel) rfl (aU rfl))) (λ_ _ _ _ _=>jv) (λ_ _ _ _ _=>(jd c_law_take (hr.mono ⋯) rfl (j0 (pv 1) (j0 j7 j2))))))) jI)
   (j6 (vU (i:=4) qJ.nd rfl (lA rfl) (jo jR j7 (jd c_law_take (hr.mono ⋯) rfl (j0 (pv 0) (j0 j7 j2)))))
   (j9 (jn (jN (osc:=(j8 jY)) (ON:=["_law_box_here","_law_top","_law_size","_law_pick","_law_step"]) (N:=["_law_place","_law_top","_law_step"]) (own:=1) (caps:=[1,4]) ⟨rfl,∅,∅,∅,rfl,∅⟩ rfl rfl rfl (qd rfl nb.b_range (j0 (pv 2) j2)) (λ_ _ _ _ _=>(jb (i:=0) (show aY (["_law_place","_law_top","_law_step"]:List Str) by decide +kernel) rfl (aU rfl))) (λ_ _ _ _ _=>jv) (λ_ _ _ _ _=>(jg (yj rfl) rfl nb.b_max nH (j0 j7 (j0 (jo zH (pv 1) (jo vO (pv 2) (pv 0))) j2)))))))))),?_⟩
  left
  refine ⟨L,b,_,rfl,B,⟨⋯,⋯⟩,λv1 H1 p1 q1 B1 X1=>?_⟩
  left
  refine xg (λ_=>?_) (λ_=>?_)
  ·left
   refine ⟨(),(),λacc hacc=>?_⟩
   have na1:=B1.ne hacc
   have na2:=B1.neL hacc
   refine qw (lo:=0) (n:=sz.toNat) (acc:=acc) (λi σ H2=>∃(x:Option V) (hs:List Int),σ=[x,some (.ref b)]/\jM L H2 b/\H2 acc=some (.lst (hs.map V.int))/\hs.length=i/\(∀x∈hs,0<=x/\x<=99)/\Ext b H1 H2) ?_ ?_ ?_
   ·exact ⟨none,[],rfl,B1.put na1 na2,j4,rfl,(by intro x hx;cases hx),Ext.new hacc⟩
   ·rintro i σ H2 hi ⟨x,hs,rfl,B2,h2,hl,hb,e2⟩
    left
    refine ⟨L,b,_,rfl,B2,⟨⋯,⋯⟩,λv H3 p3 q3 B3 X3=>?_⟩
    have h3:=X3 _ _ h2 na1
    refine ⟨_,h3,by rw [af];exact jc (),_,hs++[v],rfl,B3.put na1 na2,by rw [j4,aB];rfl,by rw [ax,hl];rfl,λx hx=>?_,λc o hc n=>?_⟩
    ·rcases List.mem_append.mp hx with hx | hx
     ·exact hb x hx
     ·have:x=v:=by simpa using hx
      omega
    ·rw [j5 (j1 hc hacc)]
     exact X3 _ _ (e2 c o hc n) n
   ·rintro σ H2 ⟨x,hs,rfl,B2,h2,hl,hb,e2⟩
    exact k acc H2 hs B2 (X1.trans e2) (X1.free hacc na1) h2 () hb
  ·left
   refine ⟨L,b,_,rfl,B1,⟨⋯,⋯⟩,λv2 H2 p2 q2 B2 X2=>?_⟩
   left
   refine ⟨(),(),λacc hacc=>?_⟩
   have na1:=B2.ne hacc
   have na2:=B2.neL hacc
   refine qw (lo:=0) (n:=sz.toNat) (acc:=acc) (λi σ H3=>∃(x:Option V) (hs:List Int),σ=[x,some (.int tp),some (.int (1+v2))]/\jM L H3 b/\H3 acc=some (.lst (hs.map V.int))/\hs.length=i/\(∀x∈hs,0<=x/\x<=99)/\Ext b H2 H3) ?_ ?_ ?_
   ·exact ⟨none,[],rfl,B2.put na1 na2,j4,rfl,(by intro x hx;cases hx),Ext.new hacc⟩
   ·rintro i σ H3 hi ⟨x,hs,rfl,B3,h3,hl,hb,e3⟩
    left
    have hm:(0:Int)<=(1+v2)*(0+(i:Int)):=Int.mul_nonneg () ()
    refine ⟨_,_,rfl,?_⟩
    refine ⟨_,h3,by rw [af];exact jc (),_,hs++[if tp-(1+v2)*(0+(i:Int)) > 0 then tp-(1+v2)*(0+(i:Int)) else 0],rfl,B3.put na1 na2,by rw [j4,aB];rfl,by rw [ax,hl];rfl,λx hx=>?_,λc o hc n=>?_⟩
    ·rcases List.mem_append.mp hx with hx | hx
     ·exact hb x hx
     ·have:x=if tp-(1+v2)*(0+(i:Int)) > 0 then tp-(1+v2)*(0+(i:Int)) else 0:=by simpa using hx
      rw [this]
      split <;> omega
    ·rw [j5 (j1 hc hacc)]
     exact e3 c o hc n
   ·rintro σ H3 ⟨x,hs,rfl,B3,h3,hl,hb,e3⟩
    have hacc1:=X2.free hacc na1
    exact k acc H3 hs B3 ((X1.trans X2).trans e3) (X1.free hacc1 na1) h3 () hb
structure RD (L b tp rw dp:Addr) (H0:Hp):Prop where
 tb:tp≠b
 rb:rw≠b
 db:dp≠b
 tL:tp≠L
 rL:rw≠L
 dL:dp≠L
 tr:tp≠rw
 td:tp≠dp
 rd:rw≠dp
 nt:H0 tp=none
 nr:H0 rw=none
 nd:H0 dp=none
structure RG (L b tp rw dp:Addr) (H0 H:Hp) (ts:List Int) (xs:List V) (rs:List Rch) (ds:List Int):Prop where
 box:jM L H b
 htp:H tp=some (.lst (ts.map V.int))
 hrw:H rw=some (.lst xs)
 hdp:H dp=some (.lst (ds.map V.int))
 rows:jJ H xs rs
 ext:Ext b H0 H
section
variable {L b tp rw dp:Addr}{H0 H H':Hp}{ts ds:List Int}{xs:List V}{rs:List Rch}
theorem RG.take (D:RD L b tp rw dp H0) (G:RG L b tp rw dp H0 H ts xs rs ds) (B:jM L H' b) (X:Ext b H H'):RG L b tp rw dp H0 H' ts xs rs ds :=
 ⟨B,X _ _ G.htp D.tb,X _ _ G.hrw D.rb,X _ _ G.hdp D.db,G.rows.keep (by obtain ⟨ns,a,r,c,d,h1,_⟩:=G.box;exact ji.lst X h1),G.ext.trans X⟩
theorem RG.same (G:RG L b tp rw dp H0 H ts xs rs ds) (s:jm H H'):RG L b tp rw dp H0 H' ts xs rs ds :=
 ⟨G.box.same s,s _ _ G.htp,s _ _ G.hrw,s _ _ G.hdp,G.rows.keep (ji.same s),G.ext.trans (Ext.of_same s)⟩
theorem RG.extN {a:Addr}(G:RG L b tp rw dp H0 H ts xs rs ds) (hn:H a=none) (e:Ext a H H'):RG L b tp rw dp H0 H' ts xs rs ds:=G.same λc o h=>e c o h (j1 h hn)
theorem RG.putT (D:RD L b tp rw dp H0) (G:RG L b tp rw dp H0 H ts xs rs ds) (ts':List Int):RG L b tp rw dp H0 (upd H tp (.lst (ts'.map V.int))) ts' xs rs ds :=
 ⟨G.box.put D.tb D.tL,j4,by rw [j5 D.tr.symm];exact G.hrw,by rw [j5 D.td.symm];exact G.hdp,G.rows.keep (ji.lst Ext.put G.htp),λc o h n=>by rw [j5 (j1 h D.nt)];exact G.ext c o h n⟩
theorem RG.putR (D:RD L b tp rw dp H0) (G:RG L b tp rw dp H0 H ts xs rs ds) {v:V}{r:Rch}(q:kI H v r):RG L b tp rw dp H0 (upd H rw (.lst (xs++[v]))) ts (xs++[v]) (rs++[r]) ds :=
 ⟨G.box.put D.rb D.rL,by rw [j5 D.tr];exact G.htp,j4,by rw [j5 D.rd.symm];exact G.hdp,(G.rows.snoc q).keep (ji.lst Ext.put G.hrw),λc o h n=>by rw [j5 (j1 h D.nr)];exact G.ext c o h n⟩
theorem RG.putD (D:RD L b tp rw dp H0) (G:RG L b tp rw dp H0 H ts xs rs ds) (ds':List Int):RG L b tp rw dp H0 (upd H dp (.lst (ds'.map V.int))) ts xs rs ds' :=
 ⟨G.box.put D.db D.dL,by rw [j5 D.td];exact G.htp,by rw [j5 D.rd];exact G.hrw,j4,G.rows.keep (ji.lst Ext.put G.hdp),λc o h n=>by rw [j5 (j1 h D.nd)];exact G.ext c o h n⟩
end
def xn (rs:List Rch):List Int:=(aO rs.length).map λi=>ju rs (qh rs i)
theorem J0 {rs:List Rch}{t:Int}{hs:List Int}(G:Grown rs) (h0:0<=t) (h1:t<rs.length) (hx:okR rs.length (t,hs)=true):xn (rs++[(t,hs)])=xn rs++[ju rs (qh rs t.toNat)+hs.length]:=by
 have Ld:=jS G.ok
 unfold xn
 rw [ax,aW,cC,aB]
 congr 1
 ·apply cT
  intro i hi
  have hi':=List.mem_range.mp hi
  rw [yh Ld hi',xE _ (xD Ld i hi')]
 ·show [ju (rs++[(t,hs)]) (qh (rs++[(t,hs)]) rs.length)]=[_]
  rw [G.deep_snoc h0 h1 hx]
theorem Xp {rs:List Rch}{t:Int}(h0:0<=t) (h1:t<rs.length):atI ((xn rs).map V.int) t=some (.int (ju rs (qh rs t.toNat))):=by
 refine xl h0 ?_
 unfold xn
 rw [au,au,mr ()]
 rfl
theorem YV {i:Nat}{t sz:Int}{hs:List Int}(hi:0<i) (h0:0<=t) (h1:t<i) (hl:(hs.length:Int)=sz) (hz0:1<=sz) (hz1:sz<=12) (hb:∀x∈hs,0<=x/\x<=99):okR i (t,hs)=true:=by
 unfold okR xq
 rw [if_neg (),decide_eq_true (show 0<=t/\t<(i:Int) from ⟨h0,h1⟩),decide_eq_true (show 1<=(hs.length:Int)/\(hs.length:Int)<=12 by omega),dW,dW,bN]
 intro x hx
 exact decide_eq_true (hb x hx)
def uN:Sp:=λvs H Q _=>∃(L b:Addr),vs=[.ref b]/\jM L H b/\∀p H' xs rs,jM L H' b->Ext b H H'->H p=none->H' p=some (.lst xs)->jJ H' xs rs->Grown rs->1<=rs.length->rs.length<=8->Q (.ref p) H'
theorem jz:FnScope ["_law_box_here","_law_tops","_law_sizes","_law_rows","_law_deep","_law_number","_law_to","_law_led","_law_heads","_law_size"] ["_law_box_here"] (j8 qQ):=by walk_at "s"
theorem Vx {v:Int}(a:0<=v) (b:v<3):∃n,atI [V.int 1,V.int 3,V.int 8] v=some (V.int n)/\0<n/\n<=8:=by
 have h:v=0\/v=1\/v=2:=()
 rcases h with rfl | rfl | rfl
 ·exact ⟨1,rfl,(),()⟩
 ·exact ⟨3,rfl,(),()⟩
 ·exact ⟨8,rfl,(),()⟩
theorem Qa {f:Addr}{fd:FuncData}(nb:Nb2 mg) (c_law_take:Cal P w K mg base 2 "_law_take" ["_law_box_here","_law_size"] xk) (c_law_ground_drawn:Cal P w K mg base 3 "_law_ground_drawn" ["_law_box_here","_law_top","_law_size"] yp) (F:Fun K "_law_reaches" "_law_reaches" qQ f fd):FnOk P w K mg base CX0 4 f fd ["_law_box_here"] uN:=by
 refine F.ok jz (λvs H Q E h=>?_) (λcdv A outer s H vs Q E hr h=>?_)
 ·obtain ⟨L,b,rfl,_⟩:=h
  rfl
 ·obtain ⟨L,b,rfl,B,k⟩:=h
  refine ⟨_,(j6 (jy 1 jz.nd (jQ (j0 (jo jR j7 (jd c_law_take (hr.mono ⋯) rfl (j0 (pv 0) (j0 j7 j2)))) j2)))
   (j6 (jy 2 jz.nd (jQ (j0 (jo jR j7 (jd c_law_take (hr.mono ⋯) rfl (j0 (pv 0) (j0 j7 j2)))) j2)))
   (j6 (jy 3 jz.nd (jQ (j0 (zN (j0 (jo zH j7 j7) (j0 (jP (xO K) rfl nb.b_tuple fk (j0 (jd c_law_ground_drawn (hr.mono ⋯) rfl (j0 (pv 0) (j0 (jq (ja K) (pv 1) j7 (λ_ _=>rfl)) (j0 (jq (ja K) (pv 2) j7 (λ_ _=>rfl)) j2)))) j2)) j2))) j2)))
   (j6 (jy 4 jz.nd (jQ (j0 (jq (ja K) (pv 2) j7 (λ_ _=>rfl)) j2)))
   (j6 (xF bA rfl (XU rfl nb.b_range (j0 j7 (j0 (jo jR j7 (jd c_law_take (hr.mono ⋯) rfl (j0 (pv 0) (j0 (jq (ja K) (jQ (j0 j7 (j0 j7 (j0 j7 j2)))) (jd c_law_take (hr.mono ⋯) rfl (j0 (pv 0) (j0 j7 j2))) (λ_ _=>rfl)) j2)))) j2))) (jb (i:=5) jz.nd rfl (aU rfl)) (j6 (jy 6 jz.nd (jd c_law_take (hr.mono ⋯) rfl (j0 (pv 0) (j0 (pv 5) j2))))
   (j6 (vU (i:=7) jz.nd rfl (lA rfl) (jN (osc:=(j8 qQ)) (ON:=["_law_box_here","_law_tops","_law_sizes","_law_rows","_law_deep","_law_number","_law_to","_law_led","_law_heads","_law_size"]) (N:=["_law_row"]) (own:=1) (caps:=[]) ⟨rfl,∅,∅,∅,rfl,∅⟩ rfl rfl rfl (qa K (pv 3)) (λ_ _ _ _ _=>(jb (i:=0) (show aY (["_law_row"]:List Str) by decide +kernel) rfl (aU rfl))) (λ_ _ _ _ _=>jv) (λ_ _ _ _ _=>(jq (xu K) (pv 0) j7 (λ_ _=>rfl)))))
   (j6 (jy 8 jz.nd (jg (jf K) rfl nb.b_len aS (j0 (jN (osc:=(j8 qQ)) (ON:=["_law_box_here","_law_tops","_law_sizes","_law_rows","_law_deep","_law_number","_law_to","_law_led","_law_heads","_law_size"]) (N:=["_law_one","_law_led"]) (own:=1) (caps:=[7]) ⟨rfl,∅,∅,∅,rfl,∅⟩ rfl rfl rfl (qd rfl nb.b_range (j0 (pv 5) j2)) (λ_ _ _ _ _=>(jb (i:=0) (show aY (["_law_one","_law_led"]:List Str) by decide +kernel) rfl (aU rfl))) (λ_ _ _ _ _=>(vv (jK (zp K) (pv 0) (pv 1) (by with_unfolding_all rfl)))) (λ_ _ _ _ _=>(pv 0))) j2)))
   (yX (qt (PW.pt (Zl (jK QQ (pv 8) j7 (qm _)) (QH (jK (JO K) (pv 6) (pv 7) (by with_unfolding_all rfl))))) (j9 (jy 6 jz.nd (jo zH (pv 5) j7))) jI)
   (j9 (qt (jK vx (jq (ja K) (pv 4) (pv 6) (λ_ _=>rfl)) j7 (qm _)) (j6 (jy 9 jz.nd (jo jR j7 (jd c_law_take (hr.mono ⋯) rfl (j0 (pv 0) (j0 (jg (yi rfl) rfl nb.b_min pI (j0 j7 (j0 (jo zH j7 (jq (ja K) (pv 4) (pv 6) (λ_ _=>rfl))) j2))) j2)))))
   (j6 (jT (yG K bY bO bP qG (pv 1) (j0 (jg (yi rfl) rfl nb.b_min pI (j0 j7 (j0 (jo jR (jq (ja K) (pv 1) (pv 6) (λ_ _=>rfl)) (jd c_law_take (hr.mono ⋯) rfl (j0 (pv 0) (j0 j7 j2)))) j2))) j2)))
   (j6 (jT (yG K bY bO bP qG (pv 3) (j0 (zN (j0 (pv 6) (j0 (jP (xO K) rfl nb.b_tuple fk (j0 (jd c_law_ground_drawn (hr.mono ⋯) rfl (j0 (pv 0) (j0 (jq (ja K) (pv 1) (vg zF j7) (λ_ _=>rfl)) (j0 (pv 9) j2)))) j2)) j2))) j2)))
   (j9 (jT (yG K bY bO bP qG (pv 4) (j0 (jo jR (jq (ja K) (pv 4) (pv 6) (λ_ _=>rfl)) (pv 9)) j2))))))) (j9 (jn (pv 3))))))))))
   (j9 (jn (pv 3)))))))),?_⟩
  left
  refine ⟨L,b,_,rfl,B,⟨⋯,⋯⟩,λv1 H1 p1 q1 B1 X1=>?_⟩
  left
  refine ⟨by show 1<=sizeLine;decide,λtp H2 htp htp2 s2=>?_⟩
  have B2:=B1.same s2
  left
  refine ⟨L,b,_,rfl,B2,⟨⋯,⋯⟩,λv2 H3 p3 q3 B3 X3=>?_⟩
  have tb:=B1.ne htp
  have tL:=B1.neL htp
  left
  refine ⟨by show 1<=sizeLine;decide,λsz H4 hsz hsz4 s4=>?_⟩
  have B4:=B3.same s4
  have htp4:=s4 _ _ (X3 _ _ htp2 tb)
  left
  refine ⟨L,b,20+v1,1+v2,rfl,B4,(),(),(),λgl H5 hs B5 X5 hgl hgl5 hl hb=>?_⟩
  have szb:=B3.ne hsz
  have htp5:=X5 _ _ htp4 tb
  have hsz5:=X5 _ _ hsz4 szb
  refine ⟨gl,_,rfl,SqL.of hgl5,λgt H6 hgt hgt6 s6=>?_⟩
  refine ⟨by show 2<=sizeLine;decide,λrt H7 hrt hrt7 s7=>?_⟩
  refine ⟨by show 1<=sizeLine;decide,λrw H8 hrw hrw8 s8=>?_⟩
  have B8:=((B5.same s6).same s7).same s8
  have sm58:jm H5 H8:=(s6.trans s7).trans s8
  have hsz8:=sm58 _ _ hsz5
  have htp8:=sm58 _ _ htp5
  have hrw5:H5 rw=none:=(s6.trans s7).free hrw
  have B7:=(B5.same s6).same s7
  have rb:=B7.ne hrw
  have rL:=B7.neL hrw
  have tr:tp≠rw:=j1 ((s6.trans s7) _ _ htp5) hrw
  left
  refine ⟨by show 1<=sizeLine;decide,λdp H9 hdp hdp9 s9=>?_⟩
  have db:=B8.ne hdp
  have dL:=B8.neL hdp
  have td:tp≠dp:=j1 htp8 hdp
  have rd:rw≠dp:=j1 hrw8 hdp
  have nz:∀a,H8 a=none->a≠b->a≠L->H a=none:=λa ha ab aL=>by
   have a5:=sm58.free ha
   have a4:=X5.free a5 ab
   exact X1.free (s2.free (X3.free (s4.free a4) ab)) ab
  have nt:H tp=none:=X1.free htp tb
  have nr:H rw=none:=X1.free (s2.free (X3.free (s4.free (X5.free hrw5 rb)) rb)) rb
  have nd:H dp=none:=nz dp hdp db dL
  have D:RD L b tp rw dp H:=⟨tb,rb,db,tL,rL,dL,tr,td,rd,nt,nr,nd⟩
  have ok0:vQ [((0-1:Int),hs)]=true:=by
   unfold vQ okR xq
   simp only [aW,List.range_one,my,List.all_nil,Bool.and_true]
   show (decide ((0-1:Int) = -1) && decide (1<=(hs.length:Int)/\(hs.length:Int)<=12) && hs.all λx=>decide (0<=x/\x<=99))=true
   rw [decide_eq_true (show 1<=(hs.length:Int)/\(hs.length:Int)<=12 by omega),bh,bN]
   exact ⟨rfl,λx hx=>decide_eq_true (hb x hx)⟩
  have rd0:qh [((0-1:Int),hs)] 0=[0]:=rfl
  have pl0:ju [((0-1:Int),hs)] [0]=hs.length:=by unfold ju;simp [zh]
  have G0:Grown [((0-1:Int),hs)]:=by
   refine ⟨ok0,aF (cf _ _) (by simp),λi hi=>?_⟩
   have:i=0:=by simp at hi;exact hi
   subst this
   rw [rd0,pl0]
   omega
  have ext8:Ext b H H8:=((((X1.trans (Ext.of_same s2)).trans X3).trans (Ext.of_same s4)).trans X5).trans (Ext.of_same sm58)
  have RG0:RG L b tp rw dp H H9 [20+v1] [.ref rt] [((0-1:Int),hs)] (xn [((0-1:Int),hs)]):=by
   refine ⟨B8.same s9,s9 _ _ htp8,s9 _ _ hrw8,?_,.cons ⟨rt,gt,rfl,s9 _ _ (s8 _ _ hrt7),s9 _ _ (s8 _ _ (s7 _ _ hgt6))⟩ .nil,ext8.trans (Ext.of_same s9)⟩
   rw [hdp9]
   show some (HO.lst [V.int (1+v2)])=some (.lst [V.int (ju [((0-1:Int),hs)] (qh [((0-1:Int),hs)] 0))])
   rw [rd0,pl0,hl]
  left
  refine ⟨by show 3<=sizeLine;decide,λq3' H10 hq hq10 s10=>?_⟩
  have RG1:=RG0.same s10
  left
  refine ⟨L,b,_,rfl,RG1.box,⟨⋯,⋯⟩,λv3 H11 p11 q11 B11 X11=>?_⟩
  have RG2:=RG1.take D B11 X11
  have hq11:=X11 _ _ hq10 (RG0.box.ne hq)
  obtain ⟨n,hn,n0,n8⟩:=Vx p11 q11
  refine ⟨_,_,_,_,rfl,rfl,SqL.of hq11,hn,?_⟩
  refine ⟨L,b,_,rfl,B11,⟨n0,()⟩,λv4 H12 p12 q12 B12 X12=>?_⟩
  have RG3:=RG2.take D B12 X12
  left
  refine ⟨1,1+v4,rfl,⟨(),(),(),()⟩,?_⟩
  have ht99:∀t∈[20+v1],t<=99:=λt ht=>by
   have:t=20+v1:=by simpa using ht
   omega
  have done:∀(H':Hp) ts xs rs ds,RG L b tp rw dp H H' ts xs rs ds->Grown rs->1<=rs.length->rs.length<=8->Q (.ref rw) H':=λH' ts xs rs ds G gr h1 h8=>k rw H' xs rs G.box G.ext nr G.hrw G.rows gr h1 h8
  refine xK (lo:=1) (n:=(1+v4-1).toNat) (λi σ H'=>∃(v5 v6 v7 v8 v9:Option V) (ts:List Int) (xs:List V) (rs:List Rch),σ=[some (.ref b),some (.ref tp),some (.ref sz),some (.ref rw),some (.ref dp),v5,v6,v7,v8,v9]/\RG L b tp rw dp H H' ts xs rs (xn rs)/\Grown rs/\rs.length=i+1/\ts.length=i+1/\∀t∈ts,t<=99) ⟨_,_,_,_,_,_,_,_,rfl,RG3,G0,rfl,rfl,ht99⟩ ?_ ?_
  ·rintro i σ H' hi ⟨v5,v6,v7,v8,v9,ts,xs,rs,rfl,G,gr,hrl,htl,htb⟩
   have Ld:=jS gr.ok
   have hxl:=G.rows.length
   left
   refine ⟨L,b,_,rfl,G.box,⟨(),()⟩,λt Ha ha0 ha1 Ba Xa=>?_⟩
   have Ga:=G.take D Ba Xa
   left
   refine ⟨⟨_,SqL.of Ga.hrw⟩,λld hld=>?_⟩
   refine jW (K:=K) (a:=rw) (xs:=xs) (acc:=ld) (λj σ H2=>∃x:Option V,σ=[x]/\H2 ld=some (.lst (((rs.take j).map (·.1)).map V.int))/\Ext ld Ha H2) ?_ ?_ ?_ ?_
   ·exact ⟨none,rfl,j4,Ext.put⟩
   ·rintro j σ H2 hj ⟨x,rfl,h3,e3⟩
    exact SqL.of (e3 _ _ Ga.hrw (j1 Ga.hrw hld))
   ·rintro j v σ H2 hv ⟨x,rfl,h3,e3⟩
    obtain ⟨r,hr,q,g,rfl,hq,hg⟩:=(Ga.rows.keep (ji.new e3 hld)).get hv
    have hj:j<rs.length:=(List.getElem?_eq_some_iff.mp hr).1
    left
    refine ⟨_,h3,by rw [af,af,aM];exact jc (),_,rfl,?_,e3.trans Ext.put⟩
    rw [j4,qj (λr:Rch=>r.1) rs j r hr,aB]
    rfl
   ·rintro σ H2 ⟨x,rfl,h3,e3⟩
    rw [hxl,bb] at h3
    have Gb:=Ga.extN hld e3
    left
    refine ⟨(),(),λhd hhd=>?_⟩
    have en:(1+(i:Int)).toNat=rs.length:=()
    refine qw (lo:=0) (n:=(1+(i:Int)).toNat) (acc:=hd) (λj σ H3=>∃(x:Option V) (vs:List V),σ=[x,some (.ref ld)]/\H3 hd=some (.lst vs)/\vs.length=((aO j).filter (jE rs)).length/\Ext hd H2 H3) ?_ ?_ ?_
    ·exact ⟨none,[],rfl,j4,rfl,Ext.put⟩
    ·rintro j σ H3 hj ⟨x,vs,rfl,h4,l4,e4⟩
     have er:((aO (j+1)).filter (jE rs)).length=((aO j).filter (jE rs)).length+(if jE rs j=true then 1 else 0):=by
      rw [cC,cn,ax]
      congr 1
      by_cases z:jE rs j=true
      ·rw [if_pos z];simp [z]
      ·rw [if_neg z];simp [z]
     have hfl:((aO j).filter (jE rs)).length<=j:=aF (cf _ _) (by rw [bH];exact ao _)
     left
     refine ⟨ld,_,rfl,.inl (SqL.of (e4 _ _ h3 (j1 h3 hhd))),rfl,yg _,?_⟩
     left
     rw [nI,yW]
     refine zO (λhin=>?_) (λhin=>?_)
     ·have hb:jE rs j=true:=by unfold jE;rw [decide_eq_false (show ¬(j:Int)∈tos rs from hin)];rfl
      left
      refine ⟨vs,h4,jc (),_,_,rfl,j4,?_,e4.trans Ext.put⟩
      rw [ax,aW,er,if_pos hb,l4]
     ·have hb:¬jE rs j=true:=by unfold jE;rw [decide_eq_true (show (j:Int)∈tos rs from hin)];exact aq
      exact ⟨_,vs,rfl,h4,by rw [er,if_neg hb,l4,Nat.add_zero],e4⟩
    ·rintro σ H3 ⟨x,vs,rfl,h4,l4,e4⟩
     have Gc:=Gb.extN hhd e4
     have hld4:=e4 _ _ h3 (j1 h3 hhd)
     rw [en] at l4
     have l4':vs.length=(jk rs).length:=l4
     refine ⟨_,_,rfl,.inl (SqL.of h4),?_⟩
     refine ⟨λσ H5=>∃t':Int,σ=[some (.ref b),some (.ref tp),some (.ref sz),some (.ref rw),some (.ref dp),some (.int (1+(i:Int))),some (.int t'),some (.ref ld),some (.int vs.length),v9]/\H5=H3/\0<=t'/\t'<rs.length/\(t'∈tos rs->(jk rs).length<6),?_,?_⟩
     ·have hh:=gr.heads
      left
      refine xg (λh6=>?_) (λh6=>?_)
      ·left
       refine ⟨ld,_,rfl,.inl (SqL.of hld4),rfl,yg _,?_⟩
       left
       rw [yW]
       refine xg (λhin=>?_) (λhin=>?_)
       ·left
        refine ⟨(),(),λz=>?_⟩
        have:=Q6 Ld z
        omega
       ·exact ⟨t,rfl,rfl,ha0,(),λz=>absurd z hin⟩
      ·have:(jk rs).length<6:=by
        have:(vs.length:Int)≠6:=λz=>h6 (by rw [z])
        omega
       exact ⟨t,rfl,rfl,ha0,(),λ_=>this⟩
     ·rintro σ H5 ⟨t',rfl,rfl,t0,t1,th⟩
      have hde:=Xp t0 t1
      left
      refine ⟨_,_,_,_,rfl,rfl,SqL.of Gc.hdp,hde,?_⟩
      left
      refine xg (λh30=>?_) (λh30=>?_)
      ·have hdp0:=gr.deep t'.toNat ()
       generalize hdt:ju rs (qh rs t'.toNat)=dt at hde h30 hdp0
       left
       refine ⟨_,_,_,_,rfl,rfl,SqL.of Gc.hdp,hde,?_⟩
       left
       refine ⟨_,_,rfl,?_⟩
       refine ⟨L,b,_,rfl,Gc.box,⟨by split <;> omega,by split <;> omega⟩,λv5' H6 p6 q6 B6 X6=>?_⟩
       have Gd:=Gc.take D B6 X6
       have hz12:1+v5'<=12/\dt+(1+v5')<=30:=by
        have q6':=q6
        split at q6' <;> omega
       left
       refine ⟨.inl ⟨rfl,_,SqL.of Gd.htp⟩,?_⟩
       left
       have hti:t'.toNat<ts.length:=()
       refine ⟨_,_,_,_,rfl,rfl,SqL.of Gd.htp,xl t0 (by rw [au,aa hti];rfl),?_⟩
       left
       refine ⟨L,b,_,rfl,Gd.box,⟨⋯,⋯⟩,λv6' H7 p7 q7 B7 X7=>?_⟩
       have Ge:=Gd.take D B7 X7
       left
       refine ⟨_,_,rfl,?_⟩
       generalize hnew:(if ts[t'.toNat]'hti+v6'<99 then ts[t'.toNat]'hti+v6' else 99)=new
       have hnew99:new<=99:=by rw [<- hnew];split <;> omega
       left
       refine ⟨tp,_,_,rfl,rfl,Ge.htp,by rw [af];exact jc (),?_⟩
       have Gf:RG L b tp rw dp H (upd H7 tp (.lst (ts.map V.int++[V.int new]))) (ts++[new]) xs rs (xn rs):=by
        have:=Ge.putT D (ts++[new])
        rw [aB] at this
        exact this
       left
       refine ⟨.inl ⟨rfl,_,SqL.of Gf.hrw⟩,?_⟩
       left
       refine ⟨_,_,_,_,rfl,rfl,SqL.of j4,Jo _ _,?_⟩
       left
       refine ⟨L,b,new,1+v5',rfl,Gf.box,hnew99,(),(),λgl' H8 hs' B8' X8 hgl' hgl8 hl' hb'=>?_⟩
       have Gg:=Gf.take D B8' X8
       refine ⟨gl',_,rfl,SqL.of hgl8,λgt' H9' hgt' hgt9 s9'=>?_⟩
       refine ⟨by show 2<=sizeLine;decide,λrt' H10' hrt' hrt10 s10'=>?_⟩
       have Gh:=(Gg.same s9').same s10'
       left
       refine ⟨rw,_,_,rfl,rfl,Gh.hrw,jc (),?_⟩
       have okn:okR rs.length (t',hs')=true:=YV () t0 t1 hl' () () hb'
       have Gi:=Gh.putR D (v:=.ref rt') (r:=(t',hs')) ⟨rt',gt',rfl,hrt10,s10' _ _ hgt9⟩
       left
       refine ⟨.inl ⟨rfl,_,SqL.of Gi.hdp⟩,?_⟩
       left
       refine ⟨_,_,_,_,rfl,rfl,SqL.of Gi.hdp,hde,?_⟩
       left
       have hdl:(xn rs).length=rs.length:=by unfold xn;simp
       refine ⟨dp,_,_,rfl,rfl,Gi.hdp,by rw [af];exact jc (),?_⟩
       have Gj:RG L b tp rw dp H (upd (upd H10' rw (.lst (xs++[.ref rt']))) dp (.lst ((xn rs).map V.int++[V.int (dt+(1+v5'))]))) (ts++[new]) (xs++[.ref rt']) (rs++[(t',hs')]) (xn (rs++[(t',hs')])):=by
        have:=Gi.putD D (xn rs++[dt+(1+v5')])
        rw [aB] at this
        rw [J0 gr t0 t1 okn,hdt,hl']
        exact this
       refine ⟨_,_,_,_,_,_,_,_,rfl,Gj,gr.snoc t0 t1 okn th (by rw [hdt];omega),by rw [ax,hrl];rfl,by rw [ax,htl];rfl,λt ht=>?_⟩
       rcases List.mem_append.mp ht with ht | ht
       ·exact htb t ht
       ·have:t=new:=by simpa using ht
        omega
      ·left
       exact done _ _ _ _ _ Gc gr () ()
  ·rintro σ H' ⟨v5,v6,v7,v8,v9,ts,xs,rs,rfl,G,gr,hrl,htl,htb⟩
   left
   exact done _ _ _ _ _ G gr () ()
def Xu (t:TE):Prop:=∀σ H Q Q',(∀v H,Q v H->Q' v H)->t σ H Q->t σ H Q'
def Y4 (r:R2):Prop:=∀x y H Q Q',(∀v H,Q v H->Q' v H)->r x y H Q->r x y H Q'
theorem QF (i:Nat):Xu (Vy i):=λ_ _ _ _ h ⟨v,e,q⟩=>⟨v,e,h _ _ q⟩
theorem QT (v:V):Xu (tC v):=λ_ _ _ _ h q=>h _ _ q
theorem we {r:R2}{ta tb:TE}(hr:Y4 r) (ha:Xu ta) (hb:Xu tb):Xu (tOp r ta tb):=λσ H Q Q' h q=>ha σ H _ _ (λx H1 q1=>hb σ H1 _ _ (λy H2 q2=>hr x y H2 _ _ h q2) q1) q
theorem QN (K:aj):Y4 (Vu K):=λ_ _ _ _ _ h ⟨a,xs,i,v,e1,e2,e3,e4,q⟩=>⟨a,xs,i,v,e1,e2,e3,e4,h _ _ q⟩
theorem YU (K:aj):Y4 (VZ K):=λ_ _ _ _ _ h ⟨a,xs,i,v,e1,e2,e3,e4,q⟩=>⟨a,xs,i,v,e1,e2,e3,e4,h _ _ q⟩
theorem U5 (g:Int->Int->V):Y4 (rI0 g):=λ_ _ _ _ _ h ⟨i,j,e1,e2,q⟩=>⟨i,j,e1,e2,h _ _ q⟩
theorem Ub:Y4 rNe:=λ_ _ _ _ _ h ⟨e,q⟩=>⟨e,h _ _ q⟩
theorem ZI {t:TE}(ht:Xu t):∀σ H Q Q',(∀b H1,Q b H1->Q' b H1)->QP t σ H Q->QP t σ H Q':=λσ H Q Q' h q=>ht σ H _ _ (λ_ _ ⟨k,e,q⟩=>⟨k,e,h _ _ q⟩) q
theorem gW {α:Type}{x:α}{l:List α}:atI (x::l) 0=some x:=zc (j:=0) rfl
def vq (fd:Addr) (H:Hp) (vs:List V) (rows:List (List Int)):Prop:=cO (λv (r:List Int)=>∃a,v=V.ref a/\a≠fd/\H a=some (.lst (r.map V.int))) vs rows
theorem vq.ext {fd:Addr}{H H':Hp}{vs:List V}{rows:List (List Int)}(h:vq fd H vs rows) (e:Ext fd H H'):vq fd H' vs rows:=Paired.mapP h λ_ _ ⟨a,e1,n,q⟩=>⟨a,e1,n,e _ _ q n⟩
theorem vq.rowsI {fd:Addr}{H:Hp}{vs:List V}{rows:List (List Int)}(h:vq fd H vs rows):zS H vs rows:=Paired.mapP h λ_ _ ⟨a,e1,n,q⟩=>⟨a,e1,q⟩
theorem uX {H:Hp}{vs:List V}{ws:List (List Int)}(h:zS H vs ws):∀ix:List Nat,(∀i∈ix,i<vs.length)->zS H (ix.map λi=>vs.getD i V.non) (ix.map λi=>ws.getD i [])
 | [],_=>.nil
 | i::ix,hb=>by
  refine .cons ?_ (uX h ix λj hj=>hb j (aD _ hj))
  have hi:=hb i aG
  obtain ⟨y,e2,a,e3,e4⟩:=Paired.get h (aa hi)
  refine ⟨a,?_,?_⟩
  ·show vs.getD i V.non=V.ref a
   rw [ak,aa hi];exact e3
  ·show H a=some (.lst ((ws.getD i []).map V.int))
   rw [ak,e2];exact e4
def Jm (K:aj):Sp:=λvs H Q _=>∃(p:Addr) (xs:List V) (rs:List Rch),vs=[.ref p]/\H p=some (.lst xs)/\jJ H xs rs/\qX rs/\rs.length<=60/\∀l H' out ws,H l=none->H' l=some (.lst out)->zS H' out ws->jO rs ws->jm H H'->Q (.ref l) H'
theorem qI:FnScope ["_law_reaches_here","_law_led","_law_found","_law_head","_law_road"] ["_law_reaches_here"] (j8 xA):=by walk_at "s"
theorem ZW {f:Addr}{fd:FuncData}(nb:Nb2 mg) (F:Fun K "_law_roads" "_law_roads" xA f fd):FnOk P w K mg base CX0 1 f fd ["_law_reaches_here"] (Jm K):=by
 refine F.ok qI (λvs H Q E h=>?_) (λcdv A outer s H vs Q E hr h=>?_)
 ·obtain ⟨p,xs,rs,rfl,_⟩:=h
  rfl
 ·obtain ⟨p,xs,rs,rfl,hp,hrw,L,h60,k⟩:=h
  have hlen:=hrw.length
  refine ⟨_,(j6 (ym (j:=1) (osc:=(j8 xA)) (ON:=["_law_reaches_here","_law_led","_law_found","_law_head","_law_road"]) (N:=["_law_to","_law_ground_here"]) (own:=2) (caps:=[]) ⟨rfl,∅,∅,∅,rfl,∅⟩ qI.nd rfl (aU rfl) rfl rfl rfl (qa K (pv 0)) (λ_ _ _ _ _=>(qS (n:=2) K rfl (js (jb (i:=0) (show aY (["_law_to","_law_ground_here"]:List Str) by decide +kernel) rfl (aU rfl)) (js (jb (i:=1) (show aY (["_law_to","_law_ground_here"]:List Str) by decide +kernel) rfl (aU rfl)) qT)))) (λ_ _ _ _ _=>jv) (λ_ _ _ _ _=>(pv 0)))
   (j6 (jy 2 qI.nd (jQ j2))
   (j6 (xF bA rfl (qd rfl nb.b_range (j0 (jg (jf K) rfl nb.b_len aS (j0 (pv 0) j2)) j2)) (jb (i:=3) qI.nd rfl (aU rfl)) (j9 (qt (jK (zp K) (pv 3) (pv 1) (by with_unfolding_all rfl)) (j6 (jy 4 qI.nd (jQ (j0 (pv 3) j2)))
   (j6 (Js bA (jK UD (jq (xu K) (jq (ja K) (pv 0) (jq (ja K) (pv 4) j7 (λ_ _=>rfl)) (λ_ _=>rfl)) j7 (λ_ _=>rfl)) (jo zH j7 j7) (qm _)) (j9 (jy 4 qI.nd (jo QZ (jQ (j0 (jq (xu K) (jq (ja K) (pv 0) (jq (ja K) (pv 4) j7 (λ_ _=>rfl)) (λ_ _=>rfl)) j7 (λ_ _=>rfl)) j2)) (pv 4)))))
   (j9 (jT (yG K bY bO bP qG (pv 2) (j0 (pv 4) j2)))))) jI)))
   (j9 (jn (jN (osc:=(j8 xA)) (ON:=["_law_reaches_here","_law_led","_law_found","_law_head","_law_road"]) (N:=["_law_road"]) (own:=1) (caps:=[]) ⟨rfl,∅,∅,∅,rfl,∅⟩ rfl rfl rfl (qa K (jg (wD K hr.units) rfl nb.b_sorted ou (j0 (pv 2) j2))) (λ_ _ _ _ _=>(jb (i:=0) (show aY (["_law_road"]:List Str) by decide +kernel) rfl (aU rfl))) (λ_ _ _ _ _=>jv) (λ_ _ _ _ _=>(Ye K (pv 0))))))))),?_⟩
  left
  refine ⟨⟨_,SqL.of hp⟩,λen hen=>?_⟩
  refine jW (K:=K) (a:=p) (xs:=xs) (acc:=en) (λj σ H2=>∃x y:Option V,σ=[x,y]/\H2 en=some (.lst (((rs.take j).map (·.1)).map V.int))/\Ext en H H2) ?_ ?_ ?_ ?_
  ·exact ⟨none,none,rfl,j4,Ext.put⟩
  ·rintro j σ H2 hj ⟨x,y,rfl,h3,e3⟩
   exact SqL.of (e3 _ _ hp (j1 hp hen))
  ·rintro j v σ H2 hv ⟨x,y,rfl,h3,e3⟩
   obtain ⟨r,hr,q,g,rfl,hq,hg⟩:=(hrw.keep (ji.new e3 hen)).get hv
   have hj:j<rs.length:=(List.getElem?_eq_some_iff.mp hr).1
   left
   refine ⟨q,_,rfl,SqT.of hq,rfl,?_⟩
   refine ⟨_,_,rfl,_,_,rfl,rfl,?_⟩
   left
   refine ⟨_,h3,by rw [af,af,aM];exact jc (),_,_,rfl,?_,e3.trans Ext.put⟩
   rw [j4,qj (λr:Rch=>r.1) rs j r hr,aB]
   rfl
  ·rintro σ H2 ⟨x,y,rfl,h3,e3⟩
   rw [hlen,bb] at h3
   have sm2:jm H H2:=λc o hc=>e3 c o hc (j1 hc hen)
   left
   refine ⟨aJ _,λfo H3 hfo hfo3 s3=>?_⟩
   have hp3:=s3 _ _ (sm2 _ _ hp)
   have hrw3:jJ H3 xs rs:=hrw.keep (ji.same (sm2.trans s3))
   have hen3:=s3 _ _ h3
   have hfoH:H fo=none:=sm2.free hfo
   left
   refine ⟨_,_,rfl,.inl (SqL.of hp3),?_⟩
   refine ⟨_,rfl,(),(),?_⟩
   rw [hlen]
   refine xK (lo:=0) (n:=((rs.length:Nat):Int).toNat) (λj σ H4=>∃(v3 v4:Option V) (vs:List V),σ=[some (.ref p),some (.ref en),some (.ref fo),v3,v4]/\H4 fo=some (.lst vs)/\vq fo H4 vs (((aO j).filter (jE rs)).map λh=>(qh rs h).reverse)/\Ext fo H3 H4/\vs.length<=j) ?_ ?_ ?_
   ·exact ⟨_,_,[],rfl,hfo3,.nil,Ext.refl,ao _⟩
   ·rintro j σ H4 hj ⟨v3,v4,vs,rfl,h4,w4,e4,l4⟩
    have hj':j<rs.length:=()
    have kt4:ji H3 H4:=ji.lst e4 hfo3
    have hen4:=e4 _ _ hen3 (j1 h3 hfo)
    have hp4:=e4 _ _ hp3 (j1 (sm2 _ _ hp) hfo)
    have hrw4:jJ H4 xs rs:=hrw3.keep kt4
    have er:(aO (j+1)).filter (jE rs)=(aO j).filter (jE rs)++(if jE rs j=true then [j] else []):=by
     rw [cC,cn]
     congr 1
     by_cases z:jE rs j=true
     ·rw [if_pos z];simp [z]
     ·rw [if_neg z];simp [z]
    left
    refine ⟨en,_,rfl,.inl (SqL.of hen4),rfl,yg _,?_⟩
    left
    rw [nI,yW]
    refine zO (λhin=>?_) (λhin=>?_)
    ·have hb:jE rs j=true:=by unfold jE;rw [decide_eq_false (show ¬(j:Int)∈tos rs from hin)];rfl
     left
     refine ⟨by show 1<=sizeLine;decide,λr0 H5 hr0 hr05 s5=>?_⟩
     left
     refine Jn (λσ H6=>∃(a:Addr) (r:Nat) (l:List Int),σ=[some (.ref p),some (.ref en),some (.ref fo),some (.int (j:Int)),some (.ref a)]/\jm H4 H6/\H4 a=none/\H6 a=some (.lst (((r:Int)::l).map V.int))/\r<rs.length/\l.length+r<=100/\l.reverse++qh rs r=qh rs j) (λσ H6=>match σ with | [_,_,_,_,some (.ref a)]=>(match H6 a with | some (.lst (.int r::_))=>r.toNat | _=>0) | _=>0) ?_ ?_ ?_
     ·exact ⟨r0,j,[],rfl,s5,hr0,hr05,hj',by simp;omega,rfl⟩
     ·rintro σ H6 ⟨a,r,l,rfl,s6,ha4,ha6,hrl,hll,heq⟩
      have hp6:=s6 _ _ hp4
      obtain ⟨v,hv,q,g,rfl,hq,hg⟩:=(hrw4.keep (ji.same s6)).at (aa hrl)
      have ht:=L.lt hrl
      have hl3:=uP (L _ hrl)
      have et:=ko (aa hrl)
      rw [et] at ht hl3
      generalize (rs[r]'hrl).1=tt at ht hl3 et hq
      left
      refine ⟨_,_,_,_,rfl,rfl,SqL.of ha6,gW,?_⟩
      refine ⟨_,_,_,_,rfl,rfl,SqL.of hp6,zc hv,?_⟩
      refine ⟨_,_,_,_,rfl,rfl,SqT.of hq,rfl,?_⟩
      left
      refine zO (λhne=>?_) (λhne=>?_)
      ·have htt:0<=tt:=by
        have:tt ≠ -1:=λz=>hne (by rw [z];rfl)
        omega
       left
       refine ⟨_,_,_,_,rfl,rfl,SqL.of ha6,gW,?_⟩
       refine ⟨_,_,_,_,rfl,rfl,SqL.of hp6,zc hv,?_⟩
       refine ⟨_,_,_,_,rfl,rfl,SqT.of hq,rfl,?_⟩
       refine ⟨by show 1<=sizeLine;decide,λc1 H7 hc1 hc17 s7=>?_⟩
       left
       refine ⟨c1,a,_,_,rfl,rfl,hc17,s7 _ _ ha6,?_,λc2 H8 hc2 hc28 s8=>?_⟩
       ·show 1+(((r:Int)::l).map V.int).length<=sizeLine
        rw [af,b7]
        exact cU (jc ())
       ·have ett:tt=((tt.toNat:Nat):Int):=()
        refine ⟨⟨c2,tt.toNat,(r:Int)::l,rfl,(s6.trans s7).trans s8,(s6.trans s7).free hc2,?_,(),?_,?_⟩,?_⟩
        ·rw [hc28,ett]
         simp only [bg]
         rfl
        ·rw [b7];omega
        ·rw [iJ,fI,<- heq,za L hrl,et,if_neg ()]
         rfl
        ·show (match H8 c2 with | some (.lst (.int r::_))=>r.toNat | _=>0)<(match H6 a with | some (.lst (.int r::_))=>r.toNat | _=>0)
         rw [hc28,ha6]
         show tt.toNat<((r:Int)).toNat
         omega
      ·have htm:tt = -1:=V.int.inj hne
       have hfo6:=s6 _ _ h4
       left
       refine ⟨.inl ⟨rfl,_,SqL.of hfo6⟩,?_⟩
       left
       refine ⟨fo,_,_,rfl,rfl,hfo6,jc (),?_⟩
       have naf:a≠fo:=λz=>by rw [z,h4] at ha4;cases ha4
       refine ⟨_,_,vs++[.ref a],rfl,j4,?_,λc o hc n=>by rw [j5 n];exact s6 _ _ (e4 c o hc n),by rw [ax,aW];omega⟩
       rw [er,if_pos hb,aB]
       refine vq.ext (cW (w4.ext (Ext.of_same s6)) ⟨a,rfl,naf,?_⟩) Ext.put
       show H6 a=some (.lst (((qh rs j).reverse).map V.int))
       rw [ha6,<- heq,za L hrl,et,if_pos (),List.reverse_append,eB]
       rfl
     ·exact ZI (we Ub (we (YU K) (we (QN K) (QF 0) (we (QN K) (QF 4) (QT _))) (QT _)) (we (U5 _) (QT _) (QT _)))
    ·have hb:¬jE rs j=true:=by unfold jE;rw [decide_eq_true (show (j:Int)∈tos rs from hin)];exact aq
     refine ⟨_,_,vs,rfl,h4,?_,e4,()⟩
     rw [er,if_neg hb,bo]
     exact w4
   ·rintro σ H4 ⟨v3,v4,vs,rfl,h4,w4,e4,l4⟩
    rw [bg] at w4 l4
    have sm4:jm H H4:=λc o hc=>e4 _ _ (s3 _ _ (sm2 _ _ hc)) (j1 hc hfoH)
    left
    refine ⟨fo,vs,_,rfl,SqL.of h4,(),w4.rowsI,λso H5 out hso hso5 s5 hs=>?_⟩
    obtain ⟨ix,hpx,eo,hpw⟩:=hs
    have hvl:vs.length=(jk rs).length:=by rw [b8 w4,af];rfl
    have hb:∀i∈ix,i<vs.length:=λi hi=>by have:=hpx.mem_iff.mp hi;simpa using this
    have hri:=uX (w4.rowsI) ix hb
    have hw5:zS H5 out (ix.map λi=>(((jk rs).map λh=>(qh rs h).reverse).getD i [])):=by
     rw [eo]
     exact Paired.mapP hri λ_ _ ⟨a,e1,q⟩=>⟨a,e1,s5 _ _ q⟩
    have hol:out.length<=60:=by rw [eo,af,hpx.length_eq,bH];omega
    generalize hrv:(ix.map λi=>(((jk rs).map λh=>(qh rs h).reverse).getD i []))=rv at hw5
    have hrvl:=b8 hw5
    have isr:jO rs (rv.map cA):=by
     refine ⟨?_,?_⟩
     ·have h1:=hpx.map λi=>(((jk rs).map λh=>(qh rs h).reverse).getD i [])
      rw [hvl,show (jk rs).length=((jk rs).map λh=>(qh rs h).reverse).length by rw [af],Jx,hrv] at h1
      have h2:=h1.map cA
      rw [bF] at h2
      refine h2.trans (List.Perm.of_eq (cT λx _=>?_))
      exact eB _
     ·rw [bF,show (cA ∘ cA:List Int->List Int)=id from funext λx=>eB x,ma,<- hrv]
      exact hpw
    refine ⟨so,rfl,⟨_,SqL.of hso5⟩,λacc hacc=>?_⟩
    refine jW (K:=K) (a:=so) (xs:=out) (acc:=acc) (λj σ H6=>∃(x:Option V) (us:List V),σ=[x]/\H6 acc=some (.lst us)/\vq acc H6 us ((rv.take j).map cA)/\Ext acc H5 H6/\us.length=j) ?_ ?_ ?_ ?_
    ·exact ⟨none,[],rfl,j4,.nil,Ext.put,rfl⟩
    ·rintro j σ H6 hj ⟨x,us,rfl,h6,w6,e6,l6⟩
     exact SqL.of (e6 _ _ hso5 (j1 hso5 hacc))
    ·rintro j v σ H6 hv ⟨x,us,rfl,h6,w6,e6,l6⟩
     obtain ⟨y,e2,a,rfl,ha⟩:=Paired.get hw5 hv
     have hj:j<rv.length:=(List.getElem?_eq_some_iff.mp e2).1
     left
     refine ⟨a,_,rfl,SqL.of (e6 _ _ ha (j1 ha hacc)),λq H7 hq hq7 s7=>?_⟩
     have h7:=s7 _ _ h6
     have nq:q≠acc:=λz=>by rw [z,h6] at hq;cases hq
     refine ⟨us,h7,jc (),_,us++[.ref q],rfl,j4,?_,λc o hc n=>by rw [j5 n];exact s7 _ _ (e6 c o hc n),by rw [ax,l6];rfl⟩
     rw [qj cA rv j y e2]
     refine vq.ext (cW (w6.ext (Ext.of_same s7)) ⟨q,rfl,nq,?_⟩) Ext.put
     rw [hq7,og]
    ·rintro σ H6 ⟨x,us,rfl,h6,w6,e6,l6⟩
     rw [hrvl,bb] at w6
     exact k acc H6 us _ (sm4.free (s5.free hacc)) h6 w6.rowsI isr λc o hc=>e6 _ _ (s5 _ _ (sm4 _ _ hc)) (j1 (s5 _ _ (sm4 _ _ hc)) hacc)
def je (rs:List Rch) (way:List Int):List Int:=(way.map λr=>zh rs r.toNat).flatten
theorem uY (rs:List Rch):∀way:List Int,((je rs way).length:Int)=ju rs way
 | []=>rfl
 | r::way=>by
  rw [qP,<- uY rs way]
  unfold je
  rw [aN,iK,ax]
  push_cast
  rfl
theorem Vo {n:Nat}(h:n<=100000):n<sizeLine:=bZ h ⋯
theorem ua (rs:List Rch) (way:List Int) (j:Nat) (r:Int) (h:way[j]? = some r):je rs (way.take (j+1))=je rs (way.take j)++zh rs r.toNat:=by
 unfold je
 rw [bW,h,aB,List.flatten_append]
 congr 1
 show [zh rs r.toNat].flatten=_
 simp
theorem vG {rs:List Rch}(h100:∀r∈rs,r.2.length<=100):∀way:List Int,(je rs way).length<=100*way.length
 | []=>by unfold je;simp
 | r::way=>by
  have ih:=vG h100 way
  have h1:(zh rs r.toNat).length<=100:=by
   unfold zh
   rw [ak]
   cases e:rs[r.toNat]? with
   | none=>simp
   | some q=>exact h100 q (av e)
  unfold je at ih ⊢
  rw [aN,iK,ax,b7]
  omega
def Jf (K:aj):Sp:=λvs H Q _=>∃(p a:Addr) (xs:List V) (rs:List Rch) (way:List Int),vs=[.ref p,.ref a]/\H p=some (.lst xs)/\jJ H xs rs/\(∀r∈rs,r.2.length<=100)/\H a=some (.lst (way.map V.int))/\(∀r∈way,0<=r/\r<rs.length)/\way.length<=100/\∀l H',H l=none->H' l=some (.lst ((je rs way).map V.int))->jm H H'->Q (.ref l) H'
theorem xr:FnScope ["_law_reaches_here","_law_road","_law_found","_law_reach","_law_height"] ["_law_reaches_here","_law_road"] (j8 zG):=by walk_at "s"
theorem Xn {f:Addr}{fd:FuncData}(F:Fun K "_law_ground" "_law_ground" zG f fd):FnOk P w K mg base CX0 1 f fd ["_law_reaches_here","_law_road"] (Jf K):=by
 refine F.ok xr (λvs H Q E h=>?_) (λcdv A outer s H vs Q E hr h=>?_)
 ·obtain ⟨p,a,xs,rs,way,rfl,_⟩:=h
  rfl
 ·obtain ⟨p,a,xs,rs,way,rfl,hp,hrw,h100,ha,hin,hwl,k⟩:=h
  have hlen:=hrw.length
  refine ⟨_,(j6 (jy 2 xr.nd (jQ j2))
   (j6 (xF bA rfl (qa K (pv 1)) (jb (i:=3) xr.nd rfl (aU rfl)) (j9 (xF bA rfl (vc K (jq (xu K) (jq (ja K) (pv 0) (pv 3) (λ_ _=>rfl)) j7 (λ_ _=>rfl))) (jb (i:=4) xr.nd rfl (aU rfl)) (j9 (jT (yG K bY bO bP qG (pv 2) (j0 (pv 4) j2)))))))
   (j9 (jn (pv 2))))),?_⟩
  left
  refine ⟨aJ _,λfo H1 hfo hfo1 s1=>?_⟩
  have ha1:=s1 _ _ ha
  left
  refine ⟨⟨_,SqL.of ha1⟩,gQ (K:=K) (a:=a) (xs:=way.map V.int) (λj σ H2=>∃x y:Option V,σ=[some (.ref p),some (.ref a),some (.ref fo),x,y]/\H2 fo=some (.lst ((je rs (way.take j)).map V.int))/\Ext fo H1 H2) ⟨_,_,rfl,hfo1,Ext.refl⟩ ?_ ?_ ?_⟩
  ·rintro j σ H2 hj ⟨x,y,rfl,h2,e2⟩
   exact SqL.of (e2 _ _ ha1 (j1 ha hfo))
  ·rintro j v σ H2 hv ⟨x,y,rfl,h2,e2⟩
   obtain ⟨r,rfl⟩:=zZ hv
   have hz:way[j]? = some r:=by
    rw [au] at hv
    cases e:way[j]? with
    | none=>rw [e] at hv;cases hv
    | some y=>rw [e] at hv;cases hv;rfl
   have hj:j<way.length:=(List.getElem?_eq_some_iff.mp hz).1
   have hr:=hin r (av hz)
   have hi:r.toNat<rs.length:=()
   obtain ⟨v,hv',q,g,rfl,hq,hg⟩:=(hrw.keep ((ji.same s1).trans (ji.lst e2 hfo1))).at (aa hi)
   have hsl:=h100 _ (bz hi)
   have hgl:=vG h100 (way.take j)
   have htl:(way.take j).length<=100:=by rw [aM];omega
   left
   refine ⟨_,_,_,_,rfl,rfl,SqL.of (e2 _ _ (s1 _ _ hp) (j1 hp hfo)),xl hr.1 hv',?_⟩
   refine ⟨_,_,_,_,rfl,rfl,SqT.of hq,rfl,?_⟩
   refine ⟨g,rfl,⟨_,SqT.of hg⟩,YZ (K:=K) (a:=g) (xs:=(rs[r.toNat]'hi).2.map V.int) (λi σ H3=>∃y:Option V,σ=[some (.ref p),some (.ref a),some (.ref fo),some (.int r),y]/\H3 fo=some (.lst ((je rs (way.take j)++(rs[r.toNat]'hi).2.take i).map V.int))/\Ext fo H2 H3) ⟨_,rfl,?_,Ext.refl⟩ ?_ ?_ ?_⟩
   ·rw [pJ,bo];exact h2
   ·rintro i σ H3 hi3 ⟨y,rfl,h3,e3⟩
    exact SqT.of (ji.lst e3 h2 _ _ hg)
   ·rintro i v σ H3 hv3 ⟨y,rfl,h3,e3⟩
    obtain ⟨z,rfl⟩:=zZ hv3
    have hz3:(rs[r.toNat]'hi).2[i]? = some z:=by
     rw [au] at hv3
     cases e:(rs[r.toNat]'hi).2[i]? with
     | none=>rw [e] at hv3;cases hv3
     | some y=>rw [e] at hv3;cases hv3;rfl
    left
    refine ⟨.inl ⟨rfl,_,SqL.of h3⟩,?_⟩
    left
    refine ⟨fo,_,_,rfl,rfl,h3,?_,?_⟩
    ·rw [af,ax,aM]
     exact Vo ()
    ·refine ⟨_,rfl,?_,e3.trans Ext.put⟩
     rw [j4,bW,hz3,<- fI,aB,aB,aB]
     rfl
   ·rintro σ H3 ⟨y,rfl,h3,e3⟩
    refine ⟨_,_,rfl,?_,e2.trans e3⟩
    rw [h3,af,bb,ua rs way j r hz,kK (aa hi)]
  ·rintro σ H2 ⟨x,y,rfl,h2,e2⟩
   rw [af,bb] at h2
   left
   exact k fo H2 hfo h2 λc o hc=>e2 _ _ (s1 _ _ hc) (j1 hc hfo)
def QI (Pt C:Addr):Sp:=λvs H Q E=>∃(p:Addr) (xs:List V) (rs:List Rch) (l:Int),vs=[.ref p,.int l]/\H p=some (.lst xs)/\jJ H xs rs/\qX rs/\rs.length<=60/\qi H Pt /\
 (∀t H' ws (i:Nat),l=i->i<ws.length->jO rs ws->H' t=some (.tup ((ws.getD i []).map V.int))->Ext Pt H H'->qi H' Pt->Q (.ref t) H')/\∀H',(l<0\/((jk rs).length:Int)<=l)->Ext Pt H H'->qi H' Pt->E (.ref C) none H'
theorem wS:FnScope ["reaches","lane","ways"] ["reaches","lane"] (j8 uQ):=by walk_at "s"
theorem Xc {f Pt C:Addr}{fd:FuncData}(nb:Nb2 mg) (e_NoLane:mg "NoLane" = some (.ref C)) (x_NoLane:cX K C [.type "ValueError",.type "Exception",.type "BaseException",.type "object"] "ValueError.__new__" = true) (c_lanes:Cal P w K mg base 5 "lanes" ["reaches"] (vj K Pt)) (F:Fun K "way_of" "way_of" uQ f fd):FnOk P w K mg base (CX1 P w) 6 f fd ["reaches","lane"] (QI Pt C):=by
 refine Fun.okX F wS (λvs H Q E h=>?_) (λcdv A outer s H vs Q E hr h=>?_)
 ·obtain ⟨p,xs,rs,l,rfl,_⟩:=h
  rfl
 ·obtain ⟨p,xs,rs,l,rfl,hp,hrw,L,h60,hT,k,kx⟩:=h
  refine ⟨_,(j6 (jy 2 wS.nd (jd c_lanes (hr.mono ⋯) rfl (j0 (pv 0) j2)))
   (j6 (qt (xo (xC qp vx j7 (pv 1) (jg (jf K) rfl nb.b_len aS (j0 (pv 2) j2)))) (j9 (xj br x_NoLane e_NoLane rfl xJ rfl (j0 jt j2))) jI)
   (j9 (jn (jq (ja K) (pv 2) (pv 1) (λ_ _=>rfl)))))),?_⟩
  left
  refine ⟨p,xs,rs,rfl,hp,hrw,L,h60,hT,λo H1 out ws ho ho1 hw hR X1 T1=>?_⟩
  have hlen:out.length=ws.length:=hw.length
  have hws:(ws.length:Int)=((jk rs).length:Int):=by rw [hR.length]
  left
  refine xg (λh0=>?_) (λh0=>?_)
  ·left
   refine ⟨_,_,rfl,.inl (SqL.of ho1),?_⟩
   left
   refine zO (λh1=>?_) (λh1=>?_)
   ·left
    exact ⟨by show 1<=sizeLine;decide,kx H1 (.inr ()) X1 T1⟩
   ·have hi:l.toNat<out.length:=()
    obtain ⟨wy,hwy,a,hov,ha⟩:=Paired.get hw (aa hi)
    have el:l=(l.toNat:Int):=()
    left
    refine ⟨_,_,_,_,rfl,rfl,SqL.of ho1,(by rw [el];exact zc (aa hi)),?_⟩
    rw [hov]
    refine k a H1 ws l.toNat el () hR ?_ X1 T1
    rw [ha,ak,hwy]
    rfl
  ·left
   refine wz ?_
   left
   exact ⟨by show 1<=sizeLine;decide,kx H1 (.inl ()) X1 T1⟩
def wG (Pt C:Addr):Sp:=λvs H Q E=>∃(p:Addr) (xs:List V) (rs:List Rch) (l:Int),vs=[.ref p,.int l]/\H p=some (.lst xs)/\jJ H xs rs/\qX rs/\rs.length<=60/\(∀r∈rs,r.2.length<=100)/\qi H Pt /\
 (∀t H' ws (i:Nat),l=i->i<ws.length->jO rs ws->H t=none->H' t=some (.lst ((je rs (ws.getD i [])).map V.int))->Ext Pt H H'->qi H' Pt->Q (.ref t) H')/\∀H',(l<0\/((jk rs).length:Int)<=l)->Ext Pt H H'->qi H' Pt->E (.ref C) none H'
theorem Q7:FnScope ["reaches","lane"] ["reaches","lane"] (j8 yk):=by walk_at "s"
theorem Vz {rs:List Rch}{ws:List (List Int)}(L:qX rs) (h:jO rs ws) {a:Nat}(ha:a<ws.length):(∀r∈ws.getD a [],0<=r/\r<rs.length)/\(ws.getD a []).length<=rs.length:=by
 rw [ak,aa ha]
 obtain ⟨x,hx,e⟩:=h.mem (bz ha)
 show (∀r∈ws[a],_)/\ws[a].length<=_
 rw [e]
 exact ⟨xD L x (x5 hx),by have:=yV L x (x5 hx);have:=x5 hx;omega⟩
theorem xL {l:List Int}{j:Nat}{v:V}(h:(l.map V.int)[j]? = some v):∃x,v = .int x/\l[j]? = some x:=by
 rw [au] at h
 cases e:l[j]? with
 | none=>rw [e] at h;cases h
 | some y=>rw [e] at h;cases h;exact ⟨y,rfl,rfl⟩
theorem Jw {H H':Hp}{Pt a:Addr}(T:qi H Pt) (e:Ext Pt H H') (T':qi H' Pt) (n:H' a=none):H a=none:=by
 cases q:H a with
 | none=>rfl
 | some o =>
  by_cases z:a=Pt
  ·obtain ⟨ps,h⟩:=T'.ne
   rw [z,h] at n
   cases n
  ·have:=e _ _ q z
   rw [n] at this
   cases this
theorem JS {f Pt C:Addr}{fd:FuncData}(nb:Nb2 mg) (c_way_of:CalX P w K mg base 6 "way_of" ["reaches","lane"] (QI Pt C)) (F:Fun K "heights" "heights" yk f fd):FnOk P w K mg base (CX1 P w) 7 f fd ["reaches","lane"] (wG Pt C):=by
 refine Fun.okX F Q7 (λvs H Q E h=>?_) (λcdv A outer s H vs Q E hr h=>?_)
 ·obtain ⟨p,xs,rs,l,rfl,_⟩:=h
  rfl
 ·obtain ⟨p,xs,rs,l,rfl,hp,hrw,L,h60,h100,hT,k,kx⟩:=h
  refine ⟨_,(j9 (jn (Ze (osc:=(j8 yk)) (ON:=["reaches","lane"]) (N:=["reach","height","reaches"]) (own:=2) (caps:=[0]) ⟨rfl,∅,∅,∅,rfl,∅⟩ rfl rfl rfl (vc K (zJ c_way_of (hr.mono ⋯) qO rfl (j0 (pv 0) (j0 (pv 1) j2)))) (λ_ _ _ _ _=>(jb (i:=0) (show aY (["reach","height","reaches"]:List Str) by decide +kernel) rfl (aU rfl))) (λ_ _ _ _ _=>jv) (λ_ _ _ _ _=>(vc K (jq (xu K) (jq (ja K) (pv 2) (pv 0) (λ_ _=>rfl)) j7 (λ_ _=>rfl)))) (λ_ _ _ _ _=>(jb (i:=1) (show aY (["reach","height","reaches"]:List Str) by decide +kernel) rfl (aU rfl))) (λ_ _ _ _ _=>jv) (λ_ _ _ _ _=>(pv 1))))),?_⟩
  obtain ⟨ps,hPt⟩:=hT.ne
  left
  refine ⟨p,xs,rs,l,rfl,hp,hrw,L,h60,hT,λt H1 ws i ei hi hR ht1 X1 T1=>?_,λH1 hbad X1 T1=>kx H1 hbad X1 T1⟩
  have hp1:=X1 _ _ hp (jh hp hPt (by walk_at "z"))
  have hrw1:jJ H1 xs rs:=hrw.keep (ji.tbl X1 hPt)
  obtain ⟨inw,lenw⟩:=Vz L hR hi
  have kk:=λt H'=>k t H' ws i ei hi hR
  generalize ws.getD i []=way at *
  left
  refine ⟨⟨_,SqT.of ht1⟩,λacc hacc=>?_⟩
  refine Xr (K:=K) (a:=t) (xs:=way.map V.int) (acc:=acc) (λj σ H2=>∃x y:Option V,σ=[x,y,some (.ref p)]/\H2 acc=some (.lst ((je rs (way.take j)).map V.int))/\Ext acc H1 H2) ?_ ?_ ?_ ?_
  ·exact ⟨none,none,rfl,j4,Ext.put⟩
  ·rintro j σ H2 hj ⟨x,y,rfl,h3,e3⟩
   exact SqT.of (e3 _ _ ht1 (j1 ht1 hacc))
  ·rintro j v σ H2 hv ⟨x,y,rfl,h3,e3⟩
   obtain ⟨r,rfl,hr'⟩:=xL hv
   have hin:=inw r (av hr')
   have hri:r.toNat<rs.length:=()
   obtain ⟨v,hv2,q,g,rfl,hq1,hg1⟩:=hrw1.at (aa hri)
   have hp2:=e3 _ _ hp1 (j1 hp1 hacc)
   have hq:=e3 _ _ hq1 (j1 hq1 hacc)
   have gl:=vG h100 (way.take j)
   have jl:(way.take j).length<=60:=by rw [aM];omega
   have hsn:=ua rs way j r hr'
   have ehs:zh rs r.toNat=(rs[r.toNat]'hri).2:=by
    unfold zh
    rw [ak,aa hri]
    rfl
   have hl100:=h100 _ (bz hri)
   rw [ehs] at hsn
   generalize (rs[r.toNat]'hri).2=hs at hg1 hsn hl100
   left
   refine ⟨_,_,_,_,rfl,rfl,SqL.of hp2,(by rw [show r=((r.toNat:Nat):Int) by omega];exact zc hv2),?_⟩
   refine ⟨_,_,_,_,rfl,rfl,SqT.of hq,rfl,?_⟩
   refine ⟨g,rfl,⟨_,SqT.of (e3 _ _ hg1 (j1 hg1 hacc))⟩,?_⟩
   refine VW (K:=K) (a:=g) (acc:=acc) (xs:=hs.map V.int) (λn σ H4=>∃y:Option V,σ=[some (.int r),y,some (.ref p)]/\H4 acc=some (.lst ((je rs (way.take j)++hs.take n).map V.int))/\Ext acc H1 H4) ?_ ?_ ?_ ?_
   ·exact ⟨y,rfl,by rw [pJ,bo];exact h3,e3⟩
   ·rintro n σ H4 hn ⟨y,rfl,h4,e4⟩
    exact SqT.of (e4 _ _ hg1 (j1 hg1 hacc))
   ·rintro n v σ H4 hv4 ⟨y,rfl,h4,e4⟩
    obtain ⟨h,rfl,hh⟩:=xL hv4
    have hnl:=(List.getElem?_eq_some_iff.mp hh).1
    left
    refine ⟨_,h4,by rw [af,ax,aM];exact aK (show _<10000 by omega) ⋯,some (.int h),rfl,?_,e4.trans Ext.put⟩
    rw [j4,bW,hh,Option.toList_some,<- fI,aB (l₁:=je rs (way.take j)++hs.take n)]
    rfl
   ·rintro σ H4 ⟨y,rfl,h4,e4⟩
    rw [af,bb,<- hsn] at h4
    exact ⟨_,_,rfl,h4,e4⟩
  ·rintro σ H2 ⟨x,y,rfl,h3,e3⟩
   rw [af,bb] at h3
   exact kk acc H2 (Jw hT X1 T1 hacc) h3 (λc o hc n=>e3 _ _ (X1 _ _ hc n) (λz=>by rw [z,Jw hT X1 T1 hacc] at hc;cases hc)) (T1.extN hacc e3)
def uj (va cy sl ye le:Addr):List (Str×V):=jj "leaps" (.ref le) (jj "years" (.ref ye) (jj "slopes" (.ref sl) (jj "cycle" (.ref cy) (jj "valley" (.ref va) []))))
theorem uV (va cy sl ye le:Addr):(uj va cy sl ye le).lookup ("cycle" : Str)=some (.ref cy):=by
 unfold uj
 rw [jr,if_neg ∅,jr,if_neg ∅,jr,if_neg ∅,jr,if_pos rfl]
theorem zd (va cy sl ye le:Addr):(uj va cy sl ye le).lookup ("slopes" : Str)=some (.ref sl):=by
 unfold uj
 rw [jr,if_neg ∅,jr,if_neg ∅,jr,if_pos rfl]
theorem uU (va cy sl ye le:Addr):(uj va cy sl ye le).lookup ("years" : Str)=some (.ref ye):=by
 unfold uj
 rw [jr,if_neg ∅,jr,if_pos rfl]
theorem yE (va cy sl ye le:Addr):(uj va cy sl ye le).lookup ("leaps" : Str)=some (.ref le):=by
 unfold uj
 rw [jr,if_pos rfl]
theorem YJ (va cy sl ye le:Addr) {m:Str}(h1:¬m = "leaps") (h2:¬m = "years") (h3:¬m = "slopes") (h4:¬m = "cycle") (h5:¬m = "valley"):(uj va cy sl ye le).lookup m=none:=by
 unfold uj
 rw [jr,if_neg h1,jr,if_neg h2,jr,if_neg h3,jr,if_neg h4,jr,if_neg h5]
 rfl
theorem qB {va cy sl ye le:Addr}{m:Str}(h:(¬m="leaps")/\(¬m="years")/\(¬m="slopes")/\(¬m="cycle")/\¬m="valley"):(uj va cy sl ye le).lookup m=none:=YJ _ _ _ _ _ h.1 h.2.1 h.2.2.1 h.2.2.2.1 h.2.2.2.2
structure IceC (K:aj) (C:Addr):Prop where
 cl:Cls K C
 nV:xM K C "valley"
 nC:xM K C "cycle"
 nS:xM K C "slopes"
 nY:xM K C "years"
 nL:xM K C "leaps"
structure IceG where
 dx:Addr
 va:Addr
 cy:Addr
 sl:Addr
 ye:Addr
 le:Addr
 xs:List V
 ys:List V
 zs:List V
 lds:List (Addr×List (Key×V))
 kvs:List (Key×V)
 rs:List Rch
 rows:List T3
 slopes:List (List Int)
structure IceAt (C:Addr) (H:Hp) (p:Addr) (g:IceG):Prop where
 ob:H p=some (.ins C g.dx (uj g.va g.cy g.sl g.ye g.le))
 va:H g.va=some (.lst g.xs)
 rs:jJ H g.xs g.rs
 cy:H g.cy=some (.lst g.ys)
 rows:qg H g.ys g.rows
 sl:H g.sl=some (.lst g.zs)
 slopes:zS H g.zs g.slopes
 ye:H g.ye=some (.dK g.kvs)
 le:H g.le=some (.lst (g.lds.map λx=>V.ref x.1))
 lds:∀x∈g.lds,H x.1=some (.dK x.2)
theorem IceAt.same {C:Addr}{H H':Hp}{p:Addr}{g:IceG}(I:IceAt C H p g) (s:jm H H'):IceAt C H' p g :=
 ⟨s _ _ I.ob,s _ _ I.va,I.rs.keep (ji.same s),s _ _ I.cy,I.rows.imp λ_ _ q=>s _ _ q,s _ _ I.sl,Paired.mapP I.slopes λ_ _ ⟨a,e,q⟩=>⟨a,e,s _ _ q⟩,s _ _ I.ye,s _ _ I.le,λx hx=>s _ _ (I.lds x hx)⟩
theorem kW {C:Addr}{H:Hp}{p:Addr}{g:IceG}(I:IceAt C H p g) {l:Int}(h0:0<=l) (h1:l<(g.slopes.length:Int)):∃a,atI g.zs l=some (.ref a)/\H a=some (.lst ((g.slopes.getD l.toNat []).map V.int)):=by
 have hz:g.zs.length=g.slopes.length:=b8 I.slopes
 have hi:l.toNat<g.zs.length:=()
 obtain ⟨w,hw,a,e,ha⟩:=Paired.get I.slopes (aa hi)
 refine ⟨a,?_,?_⟩
 ·rw [show l=((l.toNat:Nat):Int) by omega]
  refine zc ?_
  rw [aa hi,e]
 ·rw [ha,ak,hw]
  rfl
theorem U3 {l:List Int}{n:Nat}(h:n<l.length):(l.map V.int)[n]? = some (V.int (l.getD n 0)):=by
 rw [au,ak,aa h]
 rfl
def qZ (C CN:Addr):Sp:=λvs H Q E=>∃(p:Addr) (g:IceG) (l:Int),vs=[.ref p,.int l]/\IceAt C H p g/\(0<=l->l<(g.slopes.length:Int)->Q .non H)/\(l<0\/(g.slopes.length:Int)<=l->E (.ref CN) none H)
theorem yC:FnScope ["self","lane"] ["self","lane"] (j8 xf):=by walk_at "s"
theorem yz {f C CN:Addr}{fd:FuncData}(nb:Nb2 mg) (T:IceC K C) (e_NoLane:mg "NoLane" = some (.ref CN)) (x_NoLane:cX K CN [.type "ValueError",.type "Exception",.type "BaseException",.type "object"] "ValueError.__new__" = true) (F:Fun K "check_lane" "Ice.check_lane" xf f fd):FnOk P w K mg base (CX1 P w) 1 f fd ["self","lane"] (qZ C CN):=by
 refine Fun.okX F yC (λvs H Q E h=>?_) (λcdv A outer s H vs Q E hr h=>?_)
 ·obtain ⟨p,g,l,rfl,_⟩:=h
  rfl
 ·obtain ⟨p,g,l,rfl,I,k,kx⟩:=h
  have hz:g.zs.length=g.slopes.length:=b8 I.slopes
  refine ⟨_,(j9 (qt (xo (xC qp vx j7 (pv 1) (jg (jf K) rfl nb.b_len aS (j0 (qV K (pv 0)) j2)))) (j9 (xj br x_NoLane e_NoLane rfl xJ rfl (j0 jt j2))) jI)),?_⟩
  left
  refine xg (λh0=>?_) (λh0=>?_)
  ·left
   refine ⟨p,C,g.dx,_,_,rfl,I.ob,T.cl,T.nS,zd _ _ _ _ _,?_⟩
   left
   refine ⟨_,_,rfl,.inl (SqL.of I.sl),?_⟩
   rw [hz]
   left
   refine zO (λh1=>?_) (λh1=>?_)
   ·left
    exact ⟨by show 1<=sizeLine;decide,kx (.inr ())⟩
   ·left
    exact k h0 h1
  ·left
   refine wz ?_
   left
   exact ⟨by show 1<=sizeLine;decide,kx (.inl ())⟩
def yS (C CN CP:Addr):Sp:=λvs H Q E=>∃(p:Addr) (g:IceG) (l n:Int),vs=[.ref p,.int l,.int n]/\IceAt C H p g/\(0<=l->l<(g.slopes.length:Int)->0<=n->n<((g.slopes.getD l.toNat []).length:Int)->Q .non H) /\
 (l<0\/(g.slopes.length:Int)<=l->E (.ref CN) none H)/\(0<=l->l<(g.slopes.length:Int)->(n<0\/((g.slopes.getD l.toNat []).length:Int)<=n)->E (.ref CP) none H)
theorem yn:FnScope ["self","lane","place"] ["self","lane","place"] (j8 qW):=by walk_at "s"
theorem yo {f C CN CP:Addr}{fd:FuncData}(nb:Nb2 mg) (T:IceC K C) (e_NoPlace:mg "NoPlace" = some (.ref CP)) (x_NoPlace:cX K CP [.type "ValueError",.type "Exception",.type "BaseException",.type "object"] "ValueError.__new__" = true) (cl_Ice:Cls K C) (c_Ice__check_lane:CalMX P w K mg base 1 C "check_lane" ["self","lane"] (qZ C CN)) (F:Fun K "check_place" "Ice.check_place" qW f fd):FnOk P w K mg base (CX1 P w) 2 f fd ["self","lane","place"] (yS C CN CP):=by
 refine Fun.okX F yn (λvs H Q E h=>?_) (λcdv A outer s H vs Q E hr h=>?_)
 ·obtain ⟨p,g,l,n,rfl,_⟩:=h
  rfl
 ·obtain ⟨p,g,l,n,rfl,I,k,kx,ky⟩:=h
  refine ⟨_,(j6 (jT (zQ (pv 0) cl_Ice c_Ice__check_lane (hr.mono ⋯) qO (j0 (pv 1) j2)))
   (j9 (qt (xo (xC qp vx j7 (pv 2) (jg (jf K) rfl nb.b_len aS (j0 (jq (ja K) (qV K (pv 0)) (pv 1) (λ_ _=>rfl)) j2)))) (j9 (xj br x_NoPlace e_NoPlace rfl xJ rfl (j0 jt j2))) jI))),?_⟩
  left
  refine ⟨p,g.dx,_,rfl,I.ob,qB ∅,?_⟩
  left
  refine ⟨p,g,l,rfl,I,λl0 l1=>?_,λhb=>kx hb⟩
  obtain ⟨a,ha,hla⟩:=kW I l0 l1
  left
  refine xg (λh0=>?_) (λh0=>?_)
  ·left
   refine ⟨p,C,g.dx,_,_,rfl,I.ob,T.cl,T.nS,zd _ _ _ _ _,?_⟩
   left
   refine ⟨_,_,_,_,rfl,rfl,SqL.of I.sl,ha,?_⟩
   left
   refine ⟨_,_,rfl,.inl (SqL.of hla),?_⟩
   rw [af]
   left
   refine zO (λh1=>?_) (λh1=>?_)
   ·left
    exact ⟨by show 1<=sizeLine;decide,ky l0 l1 (.inr ())⟩
   ·left
    exact k l0 l1 h0 h1
  ·left
   refine wz ?_
   left
   exact ⟨by show 1<=sizeLine;decide,ky l0 l1 (.inl ())⟩
def vT (C CN:Addr):Sp:=λvs H Q E=>∃(p:Addr) (g:IceG) (l:Int),vs=[.ref p,.int l]/\IceAt C H p g/\(0<=l->l<(g.slopes.length:Int)->Q (.int ((g.slopes.getD l.toNat []).length:Int)) H)/\(l<0\/(g.slopes.length:Int)<=l->E (.ref CN) none H)
theorem uy:FnScope ["self","lane"] ["self","lane"] (j8 zq):=by walk_at "s"
theorem w5 {f C CN:Addr}{fd:FuncData}(nb:Nb2 mg) (T:IceC K C) (cl_Ice:Cls K C) (c_Ice__check_lane:CalMX P w K mg base 1 C "check_lane" ["self","lane"] (qZ C CN)) (F:Fun K "length" "Ice.length" zq f fd):FnOk P w K mg base (CX1 P w) 2 f fd ["self","lane"] (vT C CN):=by
 refine Fun.okX F uy (λvs H Q E h=>?_) (λcdv A outer s H vs Q E hr h=>?_)
 ·obtain ⟨p,g,l,rfl,_⟩:=h
  rfl
 ·obtain ⟨p,g,l,rfl,I,k,kx⟩:=h
  refine ⟨_,(j6 (jT (zQ (pv 0) cl_Ice c_Ice__check_lane (hr.mono ⋯) qO (j0 (pv 1) j2)))
   (j9 (jn (jg (jf K) rfl nb.b_len aS (j0 (jq (ja K) (qV K (pv 0)) (pv 1) (λ_ _=>rfl)) j2))))),?_⟩
  left
  refine ⟨p,g.dx,_,rfl,I.ob,qB ∅,?_⟩
  left
  refine ⟨p,g,l,rfl,I,λl0 l1=>?_,λhb=>kx hb⟩
  obtain ⟨a,ha,hla⟩:=kW I l0 l1
  left
  refine ⟨p,C,g.dx,_,_,rfl,I.ob,T.cl,T.nS,zd _ _ _ _ _,?_⟩
  left
  refine ⟨_,_,_,_,rfl,rfl,SqL.of I.sl,ha,?_⟩
  left
  refine ⟨_,_,rfl,.inl (SqL.of hla),?_⟩
  rw [af]
  exact k l0 l1
def k9 (C CN CP:Addr):Sp:=λvs H Q E=>∃(p:Addr) (g:IceG) (l n:Int),vs=[.ref p,.int l,.int n]/\IceAt C H p g/\(0<=l->l<(g.slopes.length:Int)->0<=n->n<((g.slopes.getD l.toNat []).length:Int)->Q (.int ((g.slopes.getD l.toNat []).getD n.toNat 0)) H) /\
 (l<0\/(g.slopes.length:Int)<=l->E (.ref CN) none H)/\(0<=l->l<(g.slopes.length:Int)->(n<0\/((g.slopes.getD l.toNat []).length:Int)<=n)->E (.ref CP) none H)
theorem uw:FnScope ["self","lane","place"] ["self","lane","place"] (j8 zg):=by walk_at "s"
theorem wm {f C CN CP:Addr}{fd:FuncData}(nb:Nb2 mg) (T:IceC K C) (cl_Ice:Cls K C) (c_Ice__check_place:CalMX P w K mg base 2 C "check_place" ["self","lane","place"] (yS C CN CP)) (F:Fun K "height" "Ice.height" zg f fd):FnOk P w K mg base (CX1 P w) 3 f fd ["self","lane","place"] (k9 C CN CP):=by
 refine Fun.okX F uw (λvs H Q E h=>?_) (λcdv A outer s H vs Q E hr h=>?_)
 ·obtain ⟨p,g,l,n,rfl,_⟩:=h
  rfl
 ·obtain ⟨p,g,l,n,rfl,I,k,kx,ky⟩:=h
  refine ⟨_,(j6 (jT (zQ (pv 0) cl_Ice c_Ice__check_place (hr.mono ⋯) qO (j0 (pv 1) (j0 (pv 2) j2))))
   (j9 (jn (jq (ja K) (jq (ja K) (qV K (pv 0)) (pv 1) (λ_ _=>rfl)) (pv 2) (λ_ _=>rfl))))),?_⟩
  left
  refine ⟨p,g.dx,_,rfl,I.ob,qB ∅,?_⟩
  left
  refine ⟨p,g,l,n,rfl,I,λl0 l1 n0 n1=>?_,λhb=>kx hb,λl0 l1 hb=>ky l0 l1 hb⟩
  obtain ⟨a,ha,hla⟩:=kW I l0 l1
  left
  refine ⟨p,C,g.dx,_,_,rfl,I.ob,T.cl,T.nS,zd _ _ _ _ _,?_⟩
  left
  refine ⟨_,_,_,_,rfl,rfl,SqL.of I.sl,ha,?_⟩
  left
  refine ⟨_,_,_,_,rfl,rfl,SqL.of hla,(by rw [show n=((n.toNat:Nat):Int) by omega];exact zc (U3 ())),?_⟩
  exact k l0 l1 n0 n1
def vA (CR:Addr):Sp:=λvs H Q E=>∃(p:Addr) (xs:List V) (ts:List T3),vs=[.ref p]/\H p=some (.lst xs)/\qg H xs ts/\ts.length<=1000/\(∀H',gr ts=true->jm H H'->Q .non H')/\∀H',gr ts=false->jm H H'->E (.ref CR) none H'
theorem uW:FnScope ["rows"] ["rows"] (j8 zt):=by walk_at "s"
theorem uH {f CR:Addr}{fd:FuncData}(nb:Nb2 mg) (e_BadRound:mg "BadRound" = some (.ref CR)) (x_BadRound:cX K CR [.type "ValueError",.type "Exception",.type "BaseException",.type "object"] "ValueError.__new__" = true) (c_is_round:Cal P w K mg base 2 "is_round" ["rows"] (QR K)) (F:Fun K "check_round" "check_round" zt f fd):FnOk P w K mg base (CX1 P w) 3 f fd ["rows"] (vA CR):=by
 refine Fun.okX F uW (λvs H Q E h=>?_) (λcdv A outer s H vs Q E hr h=>?_)
 ·obtain ⟨p,xs,ts,rfl,_⟩:=h
  rfl
 ·obtain ⟨p,xs,ts,rfl,hp,hr3,h1000,k,kx⟩:=h
  refine ⟨_,(j9 (qt (xo (uZ (jd c_is_round (hr.mono ⋯) rfl (j0 (pv 0) j2)))) (j9 (xj br x_BadRound e_BadRound rfl xJ rfl (j0 jt j2))) jI)),?_⟩
  left
  refine ⟨p,xs,ts,rfl,hp,hr3,h1000,λH1 s1=>?_⟩
  cases e:gr ts with
  | true =>
   left
   exact k H1 e s1
  | false =>
   left
   exact ⟨by show 1<=sizeLine;decide,kx H1 e s1⟩
def Kp (p Pt:Addr) (H H':Hp):Prop:=∀c o,H c=some o->c≠p->c≠Pt->H' c=some o
theorem Kp.trans {p Pt:Addr}{H H1 H2:Hp}(a:Kp p Pt H H1) (b:Kp p Pt H1 H2):Kp p Pt H H2:=λc o h n m=>b c o (a c o h n m) n m
theorem Kp.of_same {p Pt:Addr}{H H':Hp}(s:jm H H'):Kp p Pt H H':=λc o h _ _=>s c o h
theorem Kp.of_ext {p Pt:Addr}{H H':Hp}(s:Ext Pt H H'):Kp p Pt H H':=λc o h _ m=>s c o h m
theorem Kp.put {p Pt:Addr}{H:Hp}{o:HO}:Kp p Pt H (upd H p o):=λc _ h n _=>by rw [j5 n];exact h
theorem Kp.at {p Pt a:Addr}{H H':Hp}{o u:HO}{ps:Array ag}(k:Kp p Pt H H') (h:H a=some o) (hp:H p=some u) (hPt:H Pt=some (.tbl ps)) (n:o≠u) (m:o≠.tbl ps):H' a=some o:=k _ _ h (jh h hp n) (jh h hPt m)
theorem Kp.free {p Pt a:Addr}{H H':Hp}{u u':HO}(k:Kp p Pt H H') (h:H' a=none) (hp:H' p=some u) (hPt:H' Pt=some u'):H a=none:=by
 cases e:H a with
 | none=>rfl
 | some o =>
  have:=k a o e (λz=>by rw [z,hp] at h;cases h) (λz=>by rw [z,hPt] at h;cases h)
  rw [h] at this
  cases this
theorem vo {H:Hp}{Pt p C dx:Addr}{fs:List (Str×V)}{o:HO}(T:qi H Pt) (hp:H p=some (.ins C dx fs)):qi (upd H p o) Pt:=by
 rcases T with h | ⟨c,h,h'⟩
 ·exact .inl (by rw [j5 (jh h hp (by walk_at "z"))];exact h)
 ·exact .inr ⟨c,by rw [j5 (jh h hp (by walk_at "z"))];exact h,by rw [j5 (jh h' hp (by walk_at "z"))];exact h'⟩
theorem ji.kp {p Pt C dx:Addr}{H H':Hp}{fs:List (Str×V)}{ps:Array ag}(k:Kp p Pt H H') (hp:H p=some (.ins C dx fs)) (hPt:H Pt=some (.tbl ps)):ji H H':=λ_ _ h=>k.at h hp hPt (by walk_at "z") (by walk_at "z")
theorem pm {α β:Type}{F:α->β->Prop}:∀{l₁:List α}{l₂:List β},cO F l₁ l₂->∀v∈l₁,∃w,F v w
 | _,_,.nil,v,h=>by cases h
 | _,_,.cons q r,v,h=>by
  rcases List.mem_cons.mp h with rfl | z
  ·exact ⟨_,q⟩
  ·exact pm r v z
theorem pmE {H H0:Hp}{a0:Addr}{zs:List V}{rows:List (List Int)}(r:cO (λv (w:List Int)=>∃a,v=V.ref a/\H a=some (.lst (w.map V.int))/\H0 a=none/\a≠a0) zs rows):∀a,V.ref a∈zs->H0 a=none/\a≠a0:=λa h=>by
 obtain ⟨w,b,e,_,z⟩:=pm r _ h
 cases e
 exact z
structure IceNew (C Pt:Addr) (H H':Hp) (p:Addr) (g:IceG):Prop where
 at_:IceAt C H' p g
 keep:∀c o,H c=some o->c≠p->c≠Pt->H' c=some o
 va:H g.va=none
 cy:H g.cy=none
 sl:H g.sl=none
 ye:H g.ye=none
 le:H g.le=none
 zs:∀a,V.ref a∈g.zs->H a=none
 kvs:g.kvs=[]
 lds:∀x∈g.lds,H x.1=none/\x.2=[]
 ll:g.lds.length=g.slopes.length
 nd:(g.lds.map (·.1)).Nodup
 ny:∀x∈g.lds,x.1≠g.ye
 sl2:∃ws,jO g.rs ws/\g.slopes=ws.map (je g.rs)
def ZL (C CV CR Pt:Addr):Sp:=λvs H Q E=>∃(p dx r q:Addr) (xs ys:List V) (rs:List Rch) (ts:List T3),vs=[.ref p,.ref r,.ref q]/\H p=some (.ins C dx [])/\H r=some (.lst xs)/\jJ H xs rs/\H q=some (.lst ys)/\qg H ys ts/\(∀r∈rs,r.2.length<=100)/\rs.length<=60/\ts.length<=1000/\qi H Pt /\
 (∀H' g,xY rs=true->gr ts=true->IceNew C Pt H H' p g->g.rs=rs->g.rows=ts->g.xs=xs->g.ys=ys->qi H' Pt->Q .non H') /\
 (∀H',xY rs=false->Ext Pt H H'->qi H' Pt->E (.ref CV) none H')/\(∀H',xY rs=true->gr ts=false->Ext Pt H H'->qi H' Pt->E (.ref CR) none H')
theorem vW:FnScope ["self","reaches","rows"] ["self","reaches","rows"] (j8 qq):=by walk_at "s"
theorem vK {f C CV CR CN Pt:Addr}{fd:FuncData}(nb:Nb2 mg) (T:IceC K C) (e_BadValley:mg "BadValley" = some (.ref CV)) (x_BadValley:cX K CV [.type "ValueError",.type "Exception",.type "BaseException",.type "object"] "ValueError.__new__" = true)
  (c_is_valley:Cal P w K mg base 6 "is_valley" ["reaches"] (gP K Pt)) (c_check_round:CalX P w K mg base 3 "check_round" ["rows"] (vA CR)) (c_lanes:Cal P w K mg base 5 "lanes" ["reaches"] (vj K Pt)) (c_heights:Cal P w K mg base 7 "heights" ["reaches","lane"] (λvs H Q _=>wG Pt CN vs H Q E0))
  (F:Fun K "__init__" "Ice.__init__" qq f fd):FnOk P w K mg base (CX1 P w) 8 f fd ["self","reaches","rows"] (ZL C CV CR Pt):=by
 refine Fun.okX F vW (λvs H Q E h=>?_) (λcdv A outer s H vs Q E hr h=>?_)
 ·obtain ⟨p,dx,r,q,xs,ys,rs,ts,rfl,_⟩:=h
  rfl
 ·obtain ⟨p,dx,r,q,xs,ys,rs,ts,rfl,hp,hr',hrw,hq,hr3,h100,h60,h1000,hT,k,kv,kr⟩:=h
  obtain ⟨ps,hPt⟩:=hT.ne
  refine ⟨_,(j6 (qt (xo (uZ (jd c_is_valley (hr.mono ⋯) rfl (j0 (pv 1) j2)))) (j9 (xj br x_BadValley e_BadValley rfl xJ rfl (j0 jt j2))) jI)
   (j6 (jT (zJ c_check_round (hr.mono ⋯) qO rfl (j0 (pv 2) j2)))
   (j6 (vt K (pv 0) (jP (qo K) rfl nb.b_list c6 (j0 (pv 1) j2)))
   (j6 (vt K (pv 0) (jP (qo K) rfl nb.b_list c6 (j0 (pv 2) j2)))
   (j6 (vt K (pv 0) (jN (osc:=(j8 qq)) (ON:=["self","reaches","rows"]) (N:=["lane","reaches"]) (own:=1) (caps:=[1]) ⟨rfl,∅,∅,∅,rfl,∅⟩ rfl rfl rfl (qd rfl nb.b_range (j0 (jg (jf K) rfl nb.b_len aS (j0 (jd c_lanes (hr.mono ⋯) rfl (j0 (pv 1) j2)) j2)) j2)) (λ_ _ _ _ _=>(jb (i:=0) (show aY (["lane","reaches"]:List Str) by decide +kernel) rfl (aU rfl))) (λ_ _ _ _ _=>jv) (λ_ _ _ _ _=>(jd c_heights (hr.mono ⋯) rfl (j0 (pv 1) (j0 (pv 0) j2))))))
   (j6 (vt K (pv 0) vC)
   (j9 (vt K (pv 0) (jN (osc:=(j8 qq)) (ON:=["self","reaches","rows"]) (N:=["slope"]) (own:=1) (caps:=[]) ⟨rfl,∅,∅,∅,rfl,∅⟩ rfl rfl rfl (qa K (qV K (pv 0))) (λ_ _ _ _ _=>(jb (i:=0) (show aY (["slope"]:List Str) by decide +kernel) rfl (aU rfl))) (λ_ _ _ _ _=>jv) (λ_ _ _ _ _=>vC)))))))))),?_⟩
  left
  refine ⟨r,xs,rs,rfl,hr',hrw,h100,h60,hT,λH1 X1 T1=>?_⟩
  cases eg:xY rs with
  | false =>
   left
   exact ⟨by show 1<=sizeLine;decide,kv H1 eg X1 T1⟩
  | true =>
   have X1':∀{a:Addr} {o:HO},H a=some o->(∀ps,o≠.tbl ps)->H1 a=some o:=λ{a o} h n=>X1 _ _ h (jh h hPt (n _))
   have hp1:=X1' hp (by walk_at "w")
   have hr1:=X1' hr' (by walk_at "w")
   have hq1:=X1' hq (by walk_at "w")
   have hrw1:jJ H1 xs rs:=hrw.keep (ji.tbl X1 hPt)
   have hr31:qg H1 ys ts:=hr3.imp λa t e=>X1' e (by walk_at "w")
   left
   refine ⟨q,ys,ts,rfl,hq1,hr31,h1000,λH2 egr s2=>?_,λH2 egr s2=>kr H2 eg egr (X1.trans (Ext.of_same s2)) (T1.same s2)⟩
   have L:qX rs:=jS (by unfold xY at eg;rw [bh,bh] at eg;exact eg.2.1)
   have k2:Kp p Pt H H2:=(Kp.of_ext X1).trans (Kp.of_same s2)
   have hp2:=s2 _ _ hp1
   have T2:=T1.same s2
   left
   refine ⟨_,_,rfl,.inl (SqL.of (s2 _ _ hr1)),λva H3 va2 va3 s3=>?_⟩
   have hp3:=s3 _ _ hp2
   have T3':=T2.same s3
   have k3:=k2.trans (Kp.of_same s3)
   obtain ⟨_,hPt2⟩:=T2.ne
   have va0:=k2.free va2 hp2 hPt2
   left
   refine ⟨p,C,dx,_,rfl,hp3,T.cl,T.nV,⋯,?_⟩
   have Ta:qi (upd H3 p (HO.ins C dx (jj "valley" (V.ref va) []))) Pt:=vo T3' hp3
   have ka:=k3.trans (Kp.put (p:=p) (Pt:=Pt) (o:=HO.ins C dx (jj "valley" (V.ref va) [])))
   have pa:upd H3 p (HO.ins C dx (jj "valley" (V.ref va) [])) p=some (HO.ins C dx (jj "valley" (V.ref va) [])):=j4
   have vaa:upd H3 p (HO.ins C dx (jj "valley" (V.ref va) [])) va=some (HO.lst xs):=by rw [j5 (j1 hp2 va2).symm];exact va3
   clear k2 k3 hp1 hr1 hq1 hrw1 hr31 X1' X1 T1 s2 hp2 T2 s3 hp3 T3' va3 va2 hPt2
   generalize upd H3 p (HO.ins C dx (jj "valley" (V.ref va) []))=Ha at *
   obtain ⟨_,hPta⟩:=Ta.ne
   have vaP:va≠Pt:=jh vaa hPta (by walk_at "z")
   have vap:va≠p:=jh vaa pa (by walk_at "z")
   left
   refine ⟨_,_,rfl,.inl (SqL.of (ka.at hq hp hPt (by walk_at "z") (by walk_at "z"))),λcy H4 cya cy4 s4=>?_⟩
   have hp4:=s4 _ _ pa
   have T4:=Ta.same s4
   have cy0:=ka.free cya pa hPta
   left
   refine ⟨p,C,dx,_,rfl,hp4,T.cl,T.nC,bZ (jH _ _ _) ⋯,?_⟩
   have kb:=(ka.trans (Kp.of_same s4)).trans (Kp.put (p:=p) (Pt:=Pt) (o:=HO.ins C dx (jj "cycle" (V.ref cy) (jj "valley" (V.ref va) []))))
   have Tb:qi (upd H4 p (HO.ins C dx (jj "cycle" (V.ref cy) (jj "valley" (V.ref va) [])))) Pt:=vo T4 hp4
   have pb:upd H4 p (HO.ins C dx (jj "cycle" (V.ref cy) (jj "valley" (V.ref va) []))) p=some (HO.ins C dx (jj "cycle" (V.ref cy) (jj "valley" (V.ref va) []))):=j4
   have vab:upd H4 p (HO.ins C dx (jj "cycle" (V.ref cy) (jj "valley" (V.ref va) []))) va=some (HO.lst xs):=by rw [j5 vap];exact s4 _ _ vaa
   have cyb:upd H4 p (HO.ins C dx (jj "cycle" (V.ref cy) (jj "valley" (V.ref va) []))) cy=some (HO.lst ys):=by rw [j5 (j1 pa cya).symm];exact cy4
   clear ka Ta pa vaa s4 hp4 T4 cya cy4 hPta
   generalize upd H4 p (HO.ins C dx (jj "cycle" (V.ref cy) (jj "valley" (V.ref va) [])))=Hb at *
   obtain ⟨_,hPtb⟩:=Tb.ne
   have cyP:cy≠Pt:=jh cyb hPtb (by walk_at "z")
   have cyp:cy≠p:=jh cyb pb (by walk_at "z")
   have pP:p≠Pt:=jh pb hPtb (by walk_at "z")
   left
   refine ⟨r,xs,rs,rfl,kb.at hr' hp hPt (by walk_at "z") (by walk_at "z"),hrw.keep (ji.kp kb hp hPt),L,h60,Tb,λo H5 out ws ho ho5 hw hR X5 T5=>?_⟩
   left
   refine ⟨_,_,rfl,.inl (SqL.of ho5),?_⟩
   have hlen:out.length=ws.length:=hw.length
   have hws:ws.length<=60:=by
    rw [hR.length]
    unfold jk
    exact aF (cf _ _) (by rw [bH];exact h60)
   refine ⟨(out.length:Int),rfl,(),(),λacc hacc=>?_⟩
   obtain ⟨_,hPt5⟩:=T5.ne
   have kb5:Kp p Pt H H5:=kb.trans (Kp.of_ext X5)
   have hp5:=X5 _ _ pb pP
   have va5:=X5 _ _ vab vaP
   have cy5:=X5 _ _ cyb cyP
   have hr5:H5 r=some (.lst xs):=kb5.at hr' hp hPt (by walk_at "z") (by walk_at "z")
   have hrw5:jJ H5 xs rs:=hrw.keep (ji.kp kb5 hp hPt)
   have accP:Pt≠acc:=j1 hPt5 hacc
   refine qw (lo:=0) (n:=((out.length:Int)).toNat) (acc:=acc) (λi σ H6=>∃(x:Option V) (zs:List V),σ=[x,some (.ref r)]/\H6 acc=some (.lst zs)/\zs.length=i/\cO (λv (w:List Int)=>∃a,v=V.ref a/\H6 a=some (.lst (w.map V.int))/\H5 a=none/\a≠acc) zs ((ws.take i).map (je rs))/\Kp acc Pt H5 H6/\qi H6 Pt) ?_ ?_ ?_
   ·exact ⟨none,[],rfl,j4,rfl,.nil,Kp.put,T5.extN hacc Ext.put⟩
   ·rintro i σ H6 hi ⟨x,zs,rfl,h6,hz,r6,k6,T6⟩
    obtain ⟨_,hPt6⟩:=T6.ne
    have iw:i<ws.length:=()
    left
    refine ⟨r,xs,rs,_,rfl,k6 _ _ hr5 (j1 hr5 hacc) (jh hr5 hPt5 (by walk_at "z")),hrw5.keep (λa o h=>k6 _ _ h (j1 h hacc) (jh h hPt5 (by walk_at "z"))),L,h60,h100,T6,λt H7 ws' i' ei hi' hR' ht ht7 X7 T7=>?_,λH' hb _ _=>?_⟩
    ·obtain rfl:=hR.unique hR'
     obtain rfl:i'=i:=()
     have h7:=X7 _ _ h6 accP.symm
     have ta:t≠acc:=(j1 h6 ht).symm
     have tP:t≠Pt:=(j1 hPt6 ht).symm
     refine ⟨zs,h7,jc (),some (.int (0+(i':Int))),zs++[.ref t],rfl,j4,by rw [ax,hz];rfl,?_,?_,?_⟩
     ·rw [qj (je rs) ws i' (ws.getD i' []) (by rw [ak,aa iw];rfl)]
      refine cW (Paired.mapP r6 λv wy ⟨a,e,ha,h0,na⟩=>⟨a,e,?_,h0,na⟩) ⟨t,rfl,by rw [j5 ta];exact ht7,k6.free ht h6 hPt6,ta⟩
      rw [j5 na]
      exact X7 _ _ ha (jh ha hPt6 (by walk_at "z"))
     ·exact (k6.trans (Kp.of_ext X7)).trans Kp.put
     ·exact T7.ext h7 Ext.put
    ·have:=hR.length
     exact absurd hb ()
   ·rintro σ H6 ⟨x,zs,rfl,h6,hz,r6,k6,T6⟩
    rw [bg,hlen,bb] at r6
    have f6:=pmE r6
    have hp6:=k6 _ _ hp5 (j1 hp5 hacc) pP
    have kc:Kp p Pt H (upd H6 p (HO.ins C dx (jj "slopes" (V.ref acc) (jj "cycle" (V.ref cy) (jj "valley" (V.ref va) []))))):=λc o h n m=>by
     rw [j5 n]
     have:=kb5 c o h n m
     exact k6 _ _ this (j1 this hacc) m
    have acp:acc≠p:=(j1 hp5 hacc).symm
    have acc0:=kb5.free hacc hp5 hPt5
    have zs0:∀a,V.ref a∈zs->H a=none:=λa z=>kb5.free (f6 a z).1 hp5 hPt5
    left
    refine ⟨p,C,dx,_,rfl,hp6,T.cl,T.nS,bZ (aF (jH _ _ _) (dE (jH _ _ _))) ⋯,?_⟩
    have Tc:qi (upd H6 p (HO.ins C dx (jj "slopes" (V.ref acc) (jj "cycle" (V.ref cy) (jj "valley" (V.ref va) []))))) Pt:=vo T6 hp6
    have pc:upd H6 p (HO.ins C dx (jj "slopes" (V.ref acc) (jj "cycle" (V.ref cy) (jj "valley" (V.ref va) [])))) p=some (HO.ins C dx (jj "slopes" (V.ref acc) (jj "cycle" (V.ref cy) (jj "valley" (V.ref va) [])))):=j4
    have vac:upd H6 p (HO.ins C dx (jj "slopes" (V.ref acc) (jj "cycle" (V.ref cy) (jj "valley" (V.ref va) [])))) va=some (HO.lst xs):=by rw [j5 vap];exact k6 _ _ va5 (j1 va5 hacc) vaP
    have cyc:upd H6 p (HO.ins C dx (jj "slopes" (V.ref acc) (jj "cycle" (V.ref cy) (jj "valley" (V.ref va) [])))) cy=some (HO.lst ys):=by rw [j5 cyp];exact k6 _ _ cy5 (j1 cy5 hacc) cyP
    have slc:upd H6 p (HO.ins C dx (jj "slopes" (V.ref acc) (jj "cycle" (V.ref cy) (jj "valley" (V.ref va) [])))) acc=some (HO.lst zs):=by rw [j5 acp];exact h6
    have slsc:zS (upd H6 p (HO.ins C dx (jj "slopes" (V.ref acc) (jj "cycle" (V.ref cy) (jj "valley" (V.ref va) []))))) zs (ws.map (je rs)):=Paired.mapP r6 λv wy ⟨a,e,ha,h0,na⟩=>⟨a,e,by rw [j5 (j1 hp5 h0).symm];exact ha⟩
    clear r6 f6 k6 T6 h6 hp6 kb5 hp5 va5 cy5 hr5 hrw5 X5 T5 kb Tb pb vab cyb hPtb accP hacc ho ho5 hw hPt5
    generalize upd H6 p (HO.ins C dx (jj "slopes" (V.ref acc) (jj "cycle" (V.ref cy) (jj "valley" (V.ref va) []))))=Hc at *
    left
    intro ye hye
    obtain ⟨_,hPtc⟩:=Tc.ne
    have ye0:=kc.free hye pc hPtc
    have yep:ye≠p:=(j1 pc hye).symm
    have s9:jm Hc (upd Hc ye (.dK [])):=jm.new hye
    left
    refine ⟨p,C,dx,_,rfl,s9 _ _ pc,T.cl,T.nY,bZ (aF (jH _ _ _) (dE (aF (jH _ _ _) (dE (jH _ _ _))))) ⋯,?_⟩
    have d_of:∀c o,Hc c=some o->c≠p->(upd (upd Hc ye (HO.dK [])) p (HO.ins C dx (jj "years" (V.ref ye) (jj "slopes" (V.ref acc) (jj "cycle" (V.ref cy) (jj "valley" (V.ref va) [])))))) c=some o:=λc o h n=>by rw [j5 n];exact s9 _ _ h
    have kd:Kp p Pt H (upd (upd Hc ye (HO.dK [])) p (HO.ins C dx (jj "years" (V.ref ye) (jj "slopes" (V.ref acc) (jj "cycle" (V.ref cy) (jj "valley" (V.ref va) [])))))):=(kc.trans (Kp.of_same s9)).trans Kp.put
    have Td:qi (upd (upd Hc ye (HO.dK [])) p (HO.ins C dx (jj "years" (V.ref ye) (jj "slopes" (V.ref acc) (jj "cycle" (V.ref cy) (jj "valley" (V.ref va) [])))))) Pt:=vo (Tc.same s9) (s9 _ _ pc)
    have pd:(upd (upd Hc ye (HO.dK [])) p (HO.ins C dx (jj "years" (V.ref ye) (jj "slopes" (V.ref acc) (jj "cycle" (V.ref cy) (jj "valley" (V.ref va) [])))))) p=some (HO.ins C dx (jj "years" (V.ref ye) (jj "slopes" (V.ref acc) (jj "cycle" (V.ref cy) (jj "valley" (V.ref va) []))))):=j4
    have vad:=d_of _ _ vac vap
    have cyd:=d_of _ _ cyc cyp
    have sld:=d_of _ _ slc acp
    have yed:(upd (upd Hc ye (HO.dK [])) p (HO.ins C dx (jj "years" (V.ref ye) (jj "slopes" (V.ref acc) (jj "cycle" (V.ref cy) (jj "valley" (V.ref va) [])))))) ye=some (.dK []):=by rw [j5 yep];exact j4
    have slsd:zS (upd (upd Hc ye (HO.dK [])) p (HO.ins C dx (jj "years" (V.ref ye) (jj "slopes" (V.ref acc) (jj "cycle" (V.ref cy) (jj "valley" (V.ref va) [])))))) zs (ws.map (je rs)):=Paired.mapP slsc λv wy ⟨a,e,ha⟩=>⟨a,e,d_of _ _ ha (jh ha pc (by walk_at "z"))⟩
    clear d_of kc Tc pc vac cyc slc slsc hye hPtc s9
    generalize (upd (upd Hc ye (HO.dK [])) p (HO.ins C dx (jj "years" (V.ref ye) (jj "slopes" (V.ref acc) (jj "cycle" (V.ref cy) (jj "valley" (V.ref va) []))))))=Hd at *
    obtain ⟨_,hPtd⟩:=Td.ne
    left
    refine ⟨p,C,dx,_,_,rfl,pd,T.cl,T.nS,(by rw [jr,if_neg ∅,jr,if_pos rfl]),?_⟩
    left
    refine ⟨⟨_,SqL.of sld⟩,λle hle=>?_⟩
    have lep:le≠p:=(j1 pd hle).symm
    have le0:=kd.free hle pd hPtd
    have zl:zs.length<=60:=()
    refine jW (K:=K) (a:=acc) (xs:=zs) (acc:=le) (λi σ He=>∃(x:Option V) (lds:List (Addr×List (Key×V))),σ=[x]/\He le=some (.lst (lds.map λx=>V.ref x.1))/\lds.length=i/\(∀x∈lds,He x.1=some (.dK x.2)/\x.2=[]/\Hd x.1=none/\x.1≠le)/\(lds.map (·.1)).Nodup/\Ext le Hd He) ?_ ?_ ?_ ?_
    ·exact ⟨none,[],rfl,j4,rfl,(λx z=>by cases z),iF,Ext.put⟩
    ·rintro i σ He hi ⟨x,lds,rfl,he,hl,hd,nn,e⟩
     exact SqL.of (e _ _ sld (j1 sld hle))
    ·rintro i v σ He hv ⟨x,lds,rfl,he,hl,hd,nn,e⟩
     have hi:=(List.getElem?_eq_some_iff.mp hv).1
     left
     intro d hd0
     have dl:d≠le:=(j1 he hd0).symm
     refine ⟨_,(by rw [j5 (c5 dl)];exact he),by rw [af];exact jc (),some v,lds++[(d,[])],rfl,(by rw [j4,aB];rfl),(by rw [ax,hl];rfl),λy hy=>?_,?_,λc o hc n=>?_⟩
     ·rcases List.mem_append.mp hy with z | z
      ·obtain ⟨h1,h2,h3,h4⟩:=hd y z
       exact ⟨by rw [j5 h4,j5 (j1 h1 hd0)];exact h1,h2,h3,h4⟩
      ·obtain rfl:y=(d,[]):=by simpa using z
       exact ⟨by rw [j5 dl];exact j4,rfl,e.free hd0 dl,dl⟩
     ·rw [aB]
      refine vh nn λz=>?_
      obtain ⟨y,hy,ey⟩:=List.mem_map.mp z
      have:=(hd y hy).1
      rw [ey,hd0] at this
      cases this
     ·rw [j5 n,j5 (j1 (e c o hc n) hd0)]
      exact e c o hc n
    ·rintro σ He ⟨x,lds,rfl,he,hl,hd,nn,e⟩
     have hpe:=e _ _ pd (j1 pd hle)
     left
     refine ⟨p,C,dx,_,rfl,hpe,T.cl,T.nL,bZ (aF (jH _ _ _) (dE (aF (jH _ _ _) (dE (aF (jH _ _ _) (dE (jH _ _ _))))))) ⋯,?_⟩
     have f_of:∀c o,Hd c=some o->c≠p->upd He p (HO.ins C dx (jj "leaps" (V.ref le) (jj "years" (V.ref ye) (jj "slopes" (V.ref acc) (jj "cycle" (V.ref cy) (jj "valley" (V.ref va) [])))))) c=some o:=λc o h n=>by rw [j5 n];exact e _ _ h (j1 h hle)
     have kf:Kp p Pt H (upd He p (HO.ins C dx (jj "leaps" (V.ref le) (jj "years" (V.ref ye) (jj "slopes" (V.ref acc) (jj "cycle" (V.ref cy) (jj "valley" (V.ref va) []))))))):=λc o h n m=>f_of c o (kd c o h n m) n
     have hnp:∀x∈lds,x.1≠p:=λx hx=>(j1 pd (hd x hx).2.2.1).symm
     refine k _ { dx:=dx,va:=va,cy:=cy,sl:=acc,ye:=ye,le:=le,xs:=xs,ys:=ys,zs:=zs,lds:=lds,kvs:=[],rs:=rs,rows:=ts,slopes:=ws.map (je rs) } eg egr ⟨⟨j4,f_of _ _ vad vap,hrw.keep (ji.kp kf hp hPt),f_of _ _ cyd cyp,hr3.imp λa t e=>kf.at e hp hPt (by walk_at "z") (by walk_at "z"),f_of _ _ sld acp,Paired.mapP slsd λv wy ⟨a,e,ha⟩=>⟨a,e,f_of _ _ ha (jh ha pd (by walk_at "z"))⟩,f_of _ _ yed yep,(by rw [j5 lep];exact he),λx hx=>by rw [j5 (hnp x hx)];exact (hd x hx).1⟩,kf,va0,cy0,acc0,ye0,le0,zs0,rfl,λx hx=>⟨kd.free (hd x hx).2.2.1 pd hPtd,(hd x hx).2.1⟩,hl.trans (b8 slsd),nn,λx hx=>(j1 yed (hd x hx).2.2.1).symm,ws,hR,rfl⟩ rfl rfl rfl rfl (vo (Td.extN hle e) hpe)
def zU (CY:Addr):Sp:=λvs H Q E=>∃y:Int,vs=[.int y]/\(0<=y->y<=99->Q .non H)/\(y<0\/99<y->E (.ref CY) none H)
theorem wv:FnScope ["year"] ["year"] (j8 zM):=by walk_at "s"
theorem wu {f CY:Addr}{fd:FuncData}{u0:Tok}(g_LAST_TOLD:mg "LAST_TOLD" = some (.int 99 u0)) (e_BadYear:mg "BadYear" = some (.ref CY)) (x_BadYear:cX K CY [.type "ValueError",.type "Exception",.type "BaseException",.type "object"] "ValueError.__new__" = true) (F:Fun K "check_told" "check_told" zM f fd):FnOk P w K mg base (CX1 P w) 1 f fd ["year"] (zU CY):=by
 refine Fun.okX F wv (λvs H Q E h=>?_) (λcdv A outer s H vs Q E hr h=>?_)
 ·obtain ⟨y,rfl,_⟩:=h
  rfl
 ·obtain ⟨y,rfl,k,kx⟩:=h
  refine ⟨_,(j9 (qt (xo (xC qp qp j7 (pv 0) (qU (v:=V.int 99) rfl g_LAST_TOLD ⟨_,rfl⟩))) (j9 (xj br x_BadYear e_BadYear rfl xJ rfl (j0 jt j2))) jI)),?_⟩
  left
  refine xg (λh0=>?_) (λh0=>?_)
  ·left
   refine zO (λh1=>?_) (λh1=>?_)
   ·left
    exact ⟨by show 1<=sizeLine;decide,kx (.inr ())⟩
   ·left
    exact k h0 h1
  ·left
   refine wz ?_
   left
   exact ⟨by show 1<=sizeLine;decide,kx (.inl ())⟩
theorem IceAt.years {C p:Addr}{H H':Hp}{g:IceG}{kvs:List (Key×V)}(I:IceAt C H p g) (hn:∀x∈g.lds,x.1≠g.ye) (e:Ext g.ye H H') (h:H' g.ye=some (.dK kvs)):IceAt C H' p { g with kvs:=kvs }:=by
 have f:∀{c:Addr} {o:HO},H c=some o->o≠.dK g.kvs->H' c=some o:=λh n=>e _ _ h (jh h I.ye n)
 exact ⟨f I.ob (by walk_at "z"),f I.va (by walk_at "z"),I.rs.keep λ_ _ q=>f q (by walk_at "z"),f I.cy (by walk_at "z"),I.rows.imp λ_ _ q=>f q (by walk_at "z"),f I.sl (by walk_at "z"),Paired.mapP I.slopes λv w ⟨a,ea,q⟩=>⟨a,ea,f q (by walk_at "z")⟩,h,f I.le (by walk_at "z"),λx hx=>e _ _ (I.lds x hx) (hn x hx)⟩
def ZE (C CY CW:Addr):Sp:=λvs H Q E=>∃(p t:Addr) (g:IceG) (y:Int) (r:T3),vs=[.ref p,.int y,.ref t]/\IceAt C H p g/\(∀x∈g.lds,x.1≠g.ye)/\H t=some (zo r)/\g.kvs.length<=1000 /\
 (∀H',0<=y->y<=99->good r=true->Ext g.ye H H'->IceAt C H' p { g with kvs:=qc g.kvs (.inl y) (.ref t) }->Q .non H')/\(y<0\/99<y->E (.ref CY) none H)/\(0<=y->y<=99->good r=false->E (.ref CW) none H)
theorem kU:FnScope ["self","year","row"] ["self","year","row"] (j8 ya):=by walk_at "s"
theorem kT {f C CY CW:Addr}{fd:FuncData}(nb:Nb2 mg) (T:IceC K C) (e_BadWeather:mg "BadWeather" = some (.ref CW)) (x_BadWeather:cX K CW [.type "ValueError",.type "Exception",.type "BaseException",.type "object"] "ValueError.__new__" = true) (c_check_told:CalX P w K mg base 1 "check_told" ["year"] (zU CY)) (c_is_weather:Cal P w K mg base 1 "is_weather" ["row"] JW) (F:Fun K "tell" "Ice.tell" ya f fd):FnOk P w K mg base (CX1 P w) 2 f fd ["self","year","row"] (ZE C CY CW):=by
 refine Fun.okX F kU (λvs H Q E h=>?_) (λcdv A outer s H vs Q E hr h=>?_)
 ·obtain ⟨p,t,g,y,r,rfl,_⟩:=h
  rfl
 ·obtain ⟨p,t,g,y,r,rfl,I,hn,ht,hk,k,ky,kw⟩:=h
  refine ⟨_,(j6 (jT (zJ c_check_told (hr.mono ⋯) qO rfl (j0 (pv 1) j2)))
   (j6 (qt (xo (uZ (jd c_is_weather (hr.mono ⋯) rfl (j0 (pv 2) j2)))) (j9 (xj br x_BadWeather e_BadWeather rfl xJ rfl (j0 jt j2))) jI)
   (j9 (xx (jG hr) (qV K (pv 0)) (pv 1) (pv 2) rfl)))),?_⟩
  left
  refine ⟨λh0 h1=>?_,λhb=>ky hb⟩
  left
  refine ⟨t,r,rfl,ht,?_⟩
  cases eg:good r with
  | false =>
   left
   exact ⟨by show 1<=sizeLine;decide,kw h0 h1 eg⟩
  | true =>
   left
   refine ⟨p,C,g.dx,_,_,rfl,I.ob,T.cl,T.nY,uU _ _ _ _ _,?_⟩
   left
   refine ⟨g.ye,_,rfl,yZ.k (k:=.inl y) I.ye (jc hk),?_⟩
   exact k _ h0 h1 eg Ext.put (I.years hn Ext.put j4)
def yb (l:List (Addr×List (Key×V))) (n:Nat) (kvs:List (Key×V)):List (Addr×List (Key×V)):=l.set n ((l.getD n (0,[])).1,kvs)
theorem Xi (l:List (Addr×List (Key×V))) (n:Nat) (kvs:List (Key×V)):(yb l n kvs).map (λx=>V.ref x.1)=l.map λx=>V.ref x.1:=by
 unfold yb
 rw [List.map_set]
 by_cases h:n<l.length
 ·rw [ak,aa h]
  refine fH λi=>?_
  rw [dZ]
  by_cases e:n=i
  ·subst e
   rw [if_pos rfl,af,if_pos h,au,aa h]
   rfl
  ·rw [if_neg e]
 ·rw [List.set_eq_of_length_le (by rw [af];omega)]
theorem IceAt.leap {C p:Addr}{H H':Hp}{g:IceG}{n:Nat}{a:Addr}{kvs kvs':List (Key×V)}(I:IceAt C H p g) (ha:g.lds[n]? = some (a,kvs)) (hn:∀x∈g.lds,x.1≠g.ye) (nd:(g.lds.map (·.1)).Nodup) (e:Ext a H H') (h:H' a=some (.dK kvs')):IceAt C H' p { g with lds:=yb g.lds n kvs' }:=by
 have hm:=av ha
 have h0:=I.lds _ hm
 have f:∀{c:Addr} {o:HO},H c=some o->(∀z,o≠.dK z)->H' c=some o:=λh n=>e _ _ h (jh h h0 (n _))
 have hl:n<g.lds.length:=(List.getElem?_eq_some_iff.mp ha).1
 refine ⟨f I.ob (by walk_at "w"),f I.va (by walk_at "w"),I.rs.keep λ_ _ q=>f q (by walk_at "w"),f I.cy (by walk_at "w"),I.rows.imp λ_ _ q=>f q (by walk_at "w"),f I.sl (by walk_at "w"),Paired.mapP I.slopes λv w ⟨a,ea,q⟩=>⟨a,ea,f q (by walk_at "w")⟩,e _ _ I.ye (λz=>hn _ hm z.symm),(by show H' g.le=_;rw [Xi];exact f I.le (by walk_at "w")),λx hx=>?_⟩
 have hx':x∈yb g.lds n kvs':=hx
 obtain ⟨i,hi,ex⟩:=List.mem_iff_getElem.mp hx'
 have hi2:i<g.lds.length:=by unfold yb at hi;rw [dh] at hi;exact hi
 have ex2:(yb g.lds n kvs')[i]? = some x:=by rw [aa hi,ex]
 unfold yb at ex2
 rw [dZ] at ex2
 by_cases en:n=i
 ·rw [if_pos en,if_pos ()] at ex2
  rw [<- aQ ex2,ak,ha]
  exact h
 ·rw [if_neg en] at ex2
  refine e _ _ (I.lds x (av ex2)) λz=>en ?_
  have h1:(g.lds.map (·.1))[n]? = some a:=by rw [au,ha];rfl
  have h2:(g.lds.map (·.1))[i]? = some a:=by rw [au,ex2,<- z];rfl
  have l1:=(List.getElem?_eq_some_iff.mp h1).1
  have l2:=(List.getElem?_eq_some_iff.mp h2).1
  exact (List.getElem?_inj l1 nd).mp (h1.trans h2.symm)
def QX (C CN CY CS:Addr):Sp:=λvs H Q E=>∃(p:Addr) (g:IceG) (l y m:Int),vs=[.ref p,.int l,.int y,.int m]/\IceAt C H p g/\g.lds.length=g.slopes.length/\(∀x∈g.lds,x.1≠g.ye)/\(g.lds.map (·.1)).Nodup/\(∀x∈g.lds,x.2.length<=1000) /\
 (∀H' a kvs,0<=l->l<(g.slopes.length:Int)->0<=y->y<=99->1<=m->m<=9->g.lds[l.toNat]? = some (a,kvs)->Ext a H H'->IceAt C H' p { g with lds:=yb g.lds l.toNat (qc kvs (.inl y) (.int m)) }->Q .non H') /\
 (l<0\/(g.slopes.length:Int)<=l->E (.ref CN) none H)/\(0<=l->l<(g.slopes.length:Int)->y<0\/99<y->E (.ref CY) none H)/\(0<=l->l<(g.slopes.length:Int)->0<=y->y<=99->m<1\/9<m->E (.ref CS) none H)
theorem wA:FnScope ["self","lane","year","many"] ["self","lane","year","many"] (j8 zy):=by walk_at "s"
theorem wx {f C CN CY CS:Addr}{fd:FuncData}{u0:Tok}(nb:Nb2 mg) (T:IceC K C) (cl_Ice:Cls K C) (g_GREATEST_SURGE:mg "GREATEST_SURGE" = some (.int 9 u0)) (e_BadSurge:mg "BadSurge" = some (.ref CS)) (x_BadSurge:cX K CS [.type "ValueError",.type "Exception",.type "BaseException",.type "object"] "ValueError.__new__" = true) (c_Ice__check_lane:CalMX P w K mg base 1 C "check_lane" ["self","lane"] (qZ C CN)) (c_check_told:CalX P w K mg base 1 "check_told" ["year"] (zU CY)) (F:Fun K "surge" "Ice.surge" zy f fd):FnOk P w K mg base (CX1 P w) 2 f fd ["self","lane","year","many"] (QX C CN CY CS):=by
 refine Fun.okX F wA (λvs H Q E h=>?_) (λcdv A outer s H vs Q E hr h=>?_)
 ·obtain ⟨p,g,l,y,m,rfl,_⟩:=h
  rfl
 ·obtain ⟨p,g,l,y,m,rfl,I,hll,hn,nd,hk,k,kn,ky,ks⟩:=h
  refine ⟨_,(j6 (jT (zQ (pv 0) cl_Ice c_Ice__check_lane (hr.mono ⋯) qO (j0 (pv 1) j2)))
   (j6 (jT (zJ c_check_told (hr.mono ⋯) qO rfl (j0 (pv 2) j2)))
   (j6 (qt (xo (xC qp qp j7 (pv 3) (qU (v:=V.int 9) rfl g_GREATEST_SURGE ⟨_,rfl⟩))) (j9 (xj br x_BadSurge e_BadSurge rfl xJ rfl (j0 jt j2))) jI)
   (j9 (xx (jG hr) (jq (ja K) (qV K (pv 0)) (pv 1) (λ_ _=>rfl)) (pv 2) (pv 3) rfl))))),?_⟩
  left
  refine ⟨p,g.dx,_,rfl,I.ob,qB ∅,?_⟩
  left
  refine ⟨p,g,l,rfl,I,λl0 l1=>?_,λhb=>kn hb⟩
  left
  refine ⟨λh0 h1=>?_,λhb=>ky l0 l1 hb⟩
  have hi:l.toNat<g.lds.length:=()
  left
  refine xg (λm0=>?_) (λm0=>?_)
  ·left
   refine zO (λm1=>?_) (λm1=>?_)
   ·left
    exact ⟨by show 1<=sizeLine;decide,ks l0 l1 h0 h1 (.inr ())⟩
   ·left
    refine ⟨p,C,g.dx,_,_,rfl,I.ob,T.cl,T.nL,yE _ _ _ _ _,?_⟩
    left
    refine ⟨_,_,_,_,rfl,rfl,SqL.of I.le,xl l0 (v:=V.ref (g.lds[l.toNat]'hi).1) (by rw [au,aa hi];rfl),?_⟩
    left
    have h0':=I.lds _ (bz hi)
    refine ⟨_,_,rfl,yZ.k (k:=.inl y) h0' (jc (hk _ (bz hi))),?_⟩
    exact k _ _ _ l0 l1 h0 h1 m0 m1 (aa hi) Ext.put (I.leap (aa hi) hn nd Ext.put j4)
  ·left
   refine wz ?_
   left
   exact ⟨by show 1<=sizeLine;decide,ks l0 l1 h0 h1 (.inl ())⟩
def kvI (q:Int×Int):Key×V:=(.inl q.1,.int q.2)
def qf:List (Int×Int)->Int->Int
 | [],_=>0
 | q::r,y=>if q.1=y then q.2 else qf r y
theorem vH:∀(ns:List (Int×Int)) (y:Int),y∈ns.map (·.1)->qr (ns.map kvI) (.inl y)=some (.int (qf ns y))
 | [],y,h=>by cases h
 | q::r,y,h=>by
  rw [aN]
  unfold qr qf
  by_cases e:q.1=y
  ·subst e
   simp [kvI,List.find?]
  ·have h':y∈r.map (·.1):=by
    rcases List.mem_cons.mp h with z | z
    ·exact absurd z.symm e
    ·exact z
   have ih:=vH r y h'
   unfold qr at ih
   simp [kvI,List.find?,e] at ih ⊢
   exact ih
theorem Jq:∀(ns:List (Int×Int)),(ns.map (·.1)).Nodup->(ns.map (·.1)).map (λy=>(y,qf ns y))=ns
 | [],_=>rfl
 | q::r,nd=>by
  rw [aN] at nd ⊢
  obtain ⟨h1,h2⟩:=List.nodup_cons.mp nd
  rw [aN]
  have e:qf (q::r) q.1=q.2:=by unfold qf;rw [if_pos rfl]
  rw [e]
  refine congrArg (q :: ·) ?_
  conv=>rhs;rw [<- Jq r h2]
  refine cT λy hy=>?_
  have hne:¬q.1=y:=λz=>h1 (z ▸ hy)
  show (y,qf (q::r) y)=_
  conv=>lhs;unfold qf
  rw [if_neg hne]
def wK (C CN:Addr):Sp:=λvs H Q E=>∃(p:Addr) (g:IceG) (l:Int),vs=[.ref p,.int l]/\IceAt C H p g/\g.lds.length=g.slopes.length/\(l<0\/(g.slopes.length:Int)<=l->E (.ref CN) none H) /\
 (0<=l->l<(g.slopes.length:Int)->∃(a:Addr) (ns:List (Int×Int)),g.lds[l.toNat]? = some (a,ns.map kvI)/\(ns.map (·.1)).Nodup/\ns.length<64 /\
  ∀o H' out (ms:List (Int×Int)),H o=none->H' o=some (.lst out)->cO (λv (m:Int×Int)=>∃b,v=V.ref b/\H' b=some (.tup [.int m.1,.int m.2])) out ms->jm H H'->ms.Perm ns->(ms.map (·.1)).Pairwise (· <= ·)->Q (.ref o) H')
theorem wg:FnScope ["self","lane"] ["self","lane"] (j8 xy):=by walk_at "s"
theorem wc {f C CN:Addr}{fd:FuncData}(nb:Nb2 mg) (T:IceC K C) (cl_Ice:Cls K C) (c_Ice__check_lane:CalMX P w K mg base 1 C "check_lane" ["self","lane"] (qZ C CN)) (F:Fun K "surges" "Ice.surges" xy f fd):FnOk P w K mg base (CX1 P w) 2 f fd ["self","lane"] (wK C CN):=by
 refine Fun.okX F wg (λvs H Q E h=>?_) (λcdv A outer s H vs Q E hr h=>?_)
 ·obtain ⟨p,g,l,rfl,_⟩:=h
  rfl
 ·obtain ⟨p,g,l,rfl,I,hll,kx,k⟩:=h
  refine ⟨_,(j6 (jT (zQ (pv 0) cl_Ice c_Ice__check_lane (hr.mono ⋯) qO (j0 (pv 1) j2)))
   (j9 (jn (jN (osc:=(j8 xy)) (ON:=["self","lane"]) (N:=["year","lane","self"]) (own:=1) (caps:=[1,0]) ⟨rfl,∅,∅,∅,rfl,∅⟩ rfl rfl rfl (qa K (jg (kC K rfl) rfl nb.b_sorted ou (j0 (jq (ja K) (qV K (pv 0)) (pv 1) (λ_ _=>rfl)) j2))) (λ_ _ _ _ _=>(jb (i:=0) (show aY (["year","lane","self"]:List Str) by decide +kernel) rfl (aU rfl))) (λ_ _ _ _ _=>jv) (λ_ _ _ _ _=>(zN (j0 (pv 0) (j0 (jB (jG hr) (jq (ja K) (qV K (pv 2)) (pv 1) (λ_ _=>rfl)) (pv 0) (λ_ _=>rfl)) j2)))))))),?_⟩
  left
  refine ⟨p,g.dx,_,rfl,I.ob,qB ∅,?_⟩
  left
  refine ⟨p,g,l,rfl,I,λl0 l1=>?_,λhb=>kx hb⟩
  obtain ⟨a,ns,ha,nd,h64,k⟩:=k l0 l1
  have hi:=(List.getElem?_eq_some_iff.mp ha).1
  have hm:=I.lds _ (av ha)
  have hat:atI (g.lds.map λx=>V.ref x.1) l=some (.ref a):=xl l0 (by rw [au,ha];rfl)
  left
  refine ⟨p,C,g.dx,_,_,rfl,I.ob,T.cl,T.nL,yE _ _ _ _ _,?_⟩
  left
  refine ⟨_,_,_,_,rfl,rfl,SqL.of I.le,hat,?_⟩
  refine ⟨a,ns.map kvI,ns.map (·.1),rfl,hm,by rw [bF,bF];rfl,by rw [af];exact h64,λo H1 ks ho ho1 s1 hp hs=>?_⟩
  have hkl:ks.length<64:=by rw [hp.length_eq,af];exact h64
  refine ⟨o,rfl,⟨_,SqL.of ho1⟩,λacc hacc=>?_⟩
  refine jW (K:=K) (a:=o) (xs:=ks.map V.int) (acc:=acc) (λi σ H2=>∃(x:Option V) (out:List V),σ=[x,some (.int l),some (.ref p)]/\H2 acc=some (.lst out)/\out.length=i/\cO (λv (m:Int×Int)=>∃b,v=V.ref b/\H2 b=some (.tup [.int m.1,.int m.2])) out ((ks.take i).map λy=>(y,qf ns y))/\Ext acc H1 H2) ?_ ?_ ?_ ?_
  ·exact ⟨none,[],rfl,j4,rfl,.nil,Ext.put⟩
  ·rintro i σ H2 hi ⟨x,out,rfl,h2,hz,r2,e2⟩
   exact SqL.of (e2 _ _ ho1 (j1 ho1 hacc))
  ·rintro i v σ H2 hv ⟨x,out,rfl,h2,hz,r2,e2⟩
   obtain ⟨y,rfl,hy⟩:=xL hv
   have hiy:=(List.getElem?_eq_some_iff.mp hy).1
   have hyn:y∈ns.map (·.1):=hp.mem_iff.mp (av hy)
   have t2:jm H H2:=λc o hc=>e2 _ _ (s1 _ _ hc) (j1 (s1 _ _ hc) hacc)
   have I2:=I.same t2
   left
   refine ⟨p,C,g.dx,_,_,rfl,I2.ob,T.cl,T.nL,yE _ _ _ _ _,?_⟩
   left
   refine ⟨_,_,_,_,rfl,rfl,SqL.of I2.le,hat,?_⟩
   left
   refine ⟨a,.int (qf ns y),rfl,by rw [<- vH ns y hyn];exact qL.k (k:=.inl y) (t2 _ _ hm),?_⟩
   left
   refine ⟨by show 2<=sizeLine;decide,λb H3 hb hb3 s3=>?_⟩
   have h3:=s3 _ _ h2
   have bacc:b≠acc:=(j1 h2 hb).symm
   refine ⟨out,h3,jc (),some (.int y),out++[.ref b],rfl,j4,by rw [ax,hz];rfl,?_,λc o hc n=>by rw [j5 n];exact s3 _ _ (e2 c o hc n)⟩
   rw [qj (λy=>(y,qf ns y)) ks i y hy]
   exact cW (Paired.mapP r2 λv m ⟨c,e,q⟩=>⟨c,e,by rw [j5 (jh (s3 _ _ q) h3 (by walk_at "z"))];exact s3 _ _ q⟩) ⟨b,rfl,by rw [j5 bacc];exact hb3⟩
  ·rintro σ H2 ⟨x,out,rfl,h2,hz,r2,e2⟩
   rw [af,bb] at r2
   have t2:jm H H2:=λc o hc=>e2 _ _ (s1 _ _ hc) (j1 (s1 _ _ hc) hacc)
   refine k acc H2 out _ (s1.free hacc) h2 r2 t2 ?_ ?_
   ·have:=hp.map λy=>(y,qf ns y)
    rw [Jq ns nd] at this
    exact this
   ·rw [bF]
    have:((λx:Int×Int=>x.1) ∘ λy=>(y,qf ns y))=id:=rfl
    rw [this,ma]
    exact hs
def JQ:Sp:=λvs H Q _=>∃(L b:Addr),vs=[.ref b]/\jM L H b/\∀(y:Int) (H':Hp),0<=y->y<=99->jM L H' b->Ext b H H'->Q (.int y) H'
theorem Jr:FnScope ["_law_box_here"] ["_law_box_here"] (j8 yK):=by walk_at "s"
theorem Yl {v a b c:Int}(h0:0<=v) (h1:v<5) (ha:0<=a/\a<=99) (hb:0<=b/\b<=99) (hc:0<=c/\c<=99):∃n,atI [V.int a,V.int b,V.int c,V.int 99,V.int 0] v=some (V.int n)/\0<=n/\n<=99:=by
 have h:v=0\/v=1\/v=2\/v=3\/v=4:=()
 rcases h with rfl | rfl | rfl | rfl | rfl
 ·exact ⟨a,rfl,ha.1,ha.2⟩
 ·exact ⟨b,rfl,hb.1,hb.2⟩
 ·exact ⟨c,rfl,hc.1,hc.2⟩
 ·exact ⟨99,rfl,⋯,⋯⟩
 ·exact ⟨0,rfl,⋯,⋯⟩
theorem Yh {f:Addr}{fd:FuncData}(c_law_take:Cal P w K mg base 2 "_law_take" ["_law_box_here","_law_size"] xk) (F:Fun K "_law_year" "_law_year" yK f fd):FnOk P w K mg base CX0 3 f fd ["_law_box_here"] JQ:=by
 refine F.ok Jr (λvs H Q E h=>?_) (λcdv A outer s H vs Q E hr h=>?_)
 ·obtain ⟨L,b,rfl,_⟩:=h
  rfl
 ·obtain ⟨L,b,rfl,B,k⟩:=h
  refine ⟨_,(j9 (jn (jq (ja K) (jQ (j0 (jd c_law_take (hr.mono ⋯) rfl (j0 (pv 0) (j0 j7 j2))) (j0 (jd c_law_take (hr.mono ⋯) rfl (j0 (pv 0) (j0 j7 j2))) (j0 (jd c_law_take (hr.mono ⋯) rfl (j0 (pv 0) (j0 j7 j2))) (j0 j7 (j0 j7 j2)))))) (jd c_law_take (hr.mono ⋯) rfl (j0 (pv 0) (j0 j7 j2))) (λ_ _=>rfl)))),?_⟩
  left
  refine ⟨L,b,_,rfl,B,⟨⋯,⋯⟩,λv1 H1 p1 q1 B1 X1=>?_⟩
  left
  refine ⟨L,b,_,rfl,B1,⟨⋯,⋯⟩,λv2 H2 p2 q2 B2 X2=>?_⟩
  left
  refine ⟨L,b,_,rfl,B2,⟨⋯,⋯⟩,λv3 H3 p3 q3 B3 X3=>?_⟩
  left
  refine ⟨by show 5<=sizeLine;decide,λl H4 hl hl4 s4=>?_⟩
  left
  refine ⟨L,b,_,rfl,B3.same s4,⟨⋯,⋯⟩,λv5 H5 p5 q5 B5 X5=>?_⟩
  obtain ⟨n,en,n0,n1⟩:=Yl p5 q5 (a:=v1) (b:=v2) (c:=v3) ⟨p1,()⟩ ⟨p2,()⟩ ⟨p3,()⟩
  refine ⟨_,_,_,_,rfl,rfl,SqL.of (X5 _ _ hl4 (B3.ne hl)),en,?_⟩
  exact k n H5 n0 n1 B5 ((((X1.trans X2).trans X3).trans (Ext.of_same s4)).trans X5)
def Vd:Sp:=λvs H Q _=>∃(L b:Addr),vs=[.ref b]/\jM L H b/\∀(v:Int) (H':Hp),0<=v->v<10 ^ 40->jM L H' b->Ext b H H'->Q (.int v) H'
theorem Q0:FnScope ["_law_box_here"] ["_law_box_here"] (j8 vM):=by walk_at "s"
theorem YA {v:Int}(a:0<=v) (b:v<4):∃n,atI [V.int 100,V.int (10 ^ 9),V.int (10 ^ 20),V.int (10 ^ 40-99)] v=some (V.int n)/\0<n/\n<=10 ^ 40:=by
 have h:v=0\/v=1\/v=2\/v=3:=()
 rcases h with rfl | rfl | rfl | rfl
 ·exact ⟨100,rfl,⋯,⋯⟩
 ·exact ⟨10 ^ 9,rfl,⋯,⋯⟩
 ·exact ⟨10 ^ 20,rfl,⋯,⋯⟩
 ·exact ⟨10 ^ 40-99,rfl,⋯,⋯⟩
theorem VX {f:Addr}{fd:FuncData}(nb:Nb2 mg) (c_law_take:Cal P w K mg base 2 "_law_take" ["_law_box_here","_law_size"] xk) (F:Fun K "_law_far" "_law_far" vM f fd):FnOk P w K mg base CX0 3 f fd ["_law_box_here"] Vd:=by
 refine F.ok Q0 (λvs H Q E h=>?_) (λcdv A outer s H vs Q E hr h=>?_)
 ·obtain ⟨L,b,rfl,_⟩:=h
  rfl
 ·obtain ⟨L,b,rfl,B,k⟩:=h
  refine ⟨_,(j9 (jn (jd c_law_take (hr.mono ⋯) rfl (j0 (pv 0) (j0 (jq (ja K) (jQ (j0 j7 (j0 (jo kS j7 j7) (j0 (jo kS j7 j7) (j0 (jo zH (jo kS j7 j7) j7) j2))))) (jd c_law_take (hr.mono ⋯) rfl (j0 (pv 0) (j0 j7 j2))) (λ_ _=>rfl)) j2))))),?_⟩
  left
  refine ⟨by show 4<=sizeLine;decide,λl H1 hl hl1 s1=>?_⟩
  left
  refine ⟨L,b,_,rfl,B.same s1,⟨⋯,⋯⟩,λv H2 v0 v1 B2 X2=>?_⟩
  obtain ⟨n,en,n0,n1⟩:=YA v0 v1
  have lb:l≠b:=B.ne hl
  refine ⟨l,_,v,_,rfl,rfl,SqL.of (X2 _ _ hl1 lb),en,?_⟩
  left
  refine ⟨L,b,n,rfl,B2,⟨n0,Int.lt_of_le_of_lt n1 ⋯⟩,λv2 H3 v20 v21 B3 X3=>?_⟩
  exact k v2 H3 v20 () B3 (λc o hc nc=>X3 _ _ (X2 _ _ (s1 _ _ hc) nc) nc)
def scK (p q sg gl ll:Addr):List (Key×V):=[(.inr "reaches",.ref p),(.inr "rows",.ref q),(.inr "single",.ref sg),(.inr "grounds",.ref gl),(.inr "leaps",.ref ll)]
theorem xc {k:Key}{v:V}{r:List (Key×V)}:qr ((k,v)::r) k=some v:=by
 unfold qr
 rw [cB (p:=λkv:Key×V=>decide (kv.1=k)) (a:=(k,v)) (decide_eq_true rfl)]
 rfl
theorem jp {k k':Key}{v:V}{r:List (Key×V)}(h:k'≠k):qr ((k',v)::r) k=qr r k:=by
 unfold qr
 rw [c7 (p:=λkv:Key×V=>decide (kv.1=k)) (a:=(k',v)) (λz=>h (of_decide_eq_true z))]
theorem Qh (p q sg gl ll:Addr):qr (scK p q sg gl ll) (.inr "reaches")=some (.ref p):=xc
theorem kE (p q sg gl ll:Addr):qr (scK p q sg gl ll) (.inr "rows")=some (.ref q):=(jp (show (aI (ai "reaches"):Key)≠aI (ai "rows") by decide +kernel)).trans (xc)
theorem zv (p q sg gl ll:Addr):qr (scK p q sg gl ll) (.inr "single")=some (.ref sg):=(jp (show (aI (ai "reaches"):Key)≠aI (ai "single") by decide +kernel)).trans ((jp (show (aI (ai "rows"):Key)≠aI (ai "single") by decide +kernel)).trans (xc))
theorem yw (p q sg gl ll:Addr):qr (scK p q sg gl ll) (.inr "grounds")=some (.ref gl):=(jp (show (aI (ai "reaches"):Key)≠aI (ai "grounds") by decide +kernel)).trans ((jp (show (aI (ai "rows"):Key)≠aI (ai "grounds") by decide +kernel)).trans ((jp (show (aI (ai "single"):Key)≠aI (ai "grounds") by decide +kernel)).trans (xc)))
theorem wk (p q sg gl ll:Addr):qr (scK p q sg gl ll) (.inr "leaps")=some (.ref ll):=(jp (show (aI (ai "reaches"):Key)≠aI (ai "leaps") by decide +kernel)).trans ((jp (show (aI (ai "rows"):Key)≠aI (ai "leaps") by decide +kernel)).trans ((jp (show (aI (ai "single"):Key)≠aI (ai "leaps") by decide +kernel)).trans ((jp (show (aI (ai "grounds"):Key)≠aI (ai "leaps") by decide +kernel)).trans (xc))))
theorem kl:∀{ns:List (Int×Int)},(ns.map (·.1)).Nodup->∀{z:Int×Int},z∈ns->qf ns z.1=z.2
 | [],_,z,h=>by cases h
 | q::r,nd,z,h=>by
  rw [aN] at nd
  obtain ⟨h1,h2⟩:=List.nodup_cons.mp nd
  unfold qf
  rcases List.mem_cons.mp h with e | e
  ·rw [e,if_pos rfl]
  ·have ne:¬q.1=z.1:=λw=>h1 (by rw [w];exact bp e)
   rw [if_neg ne]
   exact kl h2 e
theorem VA {ns:List (Int×Int)}{i:Nat}{q:Key×V}(h:(ns.map kvI)[i]? = some q):∃z,ns[i]? = some z/\q=kvI z:=by
 rw [au] at h
 cases e:ns[i]? with
 | none=>rw [e] at h;cases h
 | some z=>rw [e] at h;cases h;exact ⟨z,rfl,rfl⟩
def vn (CY:Addr):Sp:=λvs H Q E=>∃y:Int,vs=[.int y]/\(0<=y->y<=10 ^ 40->Q .non H)/\(y<0\/10 ^ 40<y->E (.ref CY) none H)
theorem wj:FnScope ["year"] ["year"] (j8 zm):=by walk_at "s"
theorem uO {f CY:Addr}{fd:FuncData}{u0:Tok}(g_LAST_ASKED:mg "LAST_ASKED" = some (.int 10000000000000000000000000000000000000000 u0)) (e_BadYear:mg "BadYear" = some (.ref CY)) (x_BadYear:cX K CY [.type "ValueError",.type "Exception",.type "BaseException",.type "object"] "ValueError.__new__" = true) (F:Fun K "check_asked" "check_asked" zm f fd):FnOk P w K mg base (CX1 P w) 1 f fd ["year"] (vn CY):=by
 refine Fun.okX F wj (λvs H Q E h=>?_) (λcdv A outer s H vs Q E hr h=>?_)
 ·obtain ⟨y,rfl,_⟩:=h
  rfl
 ·obtain ⟨y,rfl,k,kx⟩:=h
  refine ⟨_,(j9 (qt (xo (xC qp qp j7 (pv 0) (qU (v:=V.int 10000000000000000000000000000000000000000) rfl g_LAST_ASKED ⟨_,rfl⟩))) (j9 (xj br x_BadYear e_BadYear rfl xJ rfl (j0 jt j2))) jI)),?_⟩
  left
  refine xg (λh0=>?_) (λh0=>?_)
  ·left
   refine zO (λh1=>?_) (λh1=>?_)
   ·left
    exact ⟨by show 1<=sizeLine;decide,kx (.inr ())⟩
   ·left
    exact k h0 h1
  ·left
   refine wz ?_
   left
   exact ⟨by show 1<=sizeLine;decide,kx (.inl ())⟩
def YN (g:IceG) (l:Int) (ns:List (Int×Int)):Prop:=0<=l/\l<(g.slopes.length:Int)/\(∃a,g.lds[l.toNat]? = some (a,ns.map kvI))/\(ns.map (·.1)).Nodup/\ns.length<64/\∀q∈ns,0<=q.2/\q.2<=9
def kvA (z:Int×Addr):Key×V:=(.inl z.1,.ref z.2)
def qy {α:Type}(l:List (Int×α)) (y:Int) (a:α):List (Int×α):=if (l.any λz=>decide (z.1=y))=true then l.map (λz=>if z.1=y then (z.1,a) else z) else l++[(y,a)]
theorem vz {α:Type}(f:α->V) (l:List (Int×α)) (y:Int) (a:α):qc (l.map λz=>((.inl z.1,f z.2):Key×V)) (.inl y) (f a)=(qy l y a).map λz=>((.inl z.1,f z.2):Key×V):=by
 have e:∀z:Int,decide ((du z:Key)=du y)=decide (z=y):=λz=>decide_eq_decide.mpr ⟨λh=>f7 h,λh=>by rw [h]⟩
 have e1:((l.map λz=>((.inl z.1,f z.2):Key×V)).any λkv=>decide (kv.1=(du y:Key)))=l.any λz=>decide (z.1=y):=by
  rw [List.any_map]
  congr 1
  funext z
  exact e z.1
 unfold qc qy
 rw [e1]
 by_cases h:(l.any λz=>decide (z.1=y))=true
 ·rw [if_pos h,if_pos h,bF,bF]
  refine cT λz _=>?_
  show (if (du z.1:Key)=du y then _ else _)=_
  by_cases hz:z.1=y
  ·rw [if_pos (by rw [hz])]
   show _=(λz:Int×α=>((.inl z.1,f z.2):Key×V)) (if z.1=y then (z.1,a) else z)
   rw [if_pos hz]
  ·rw [if_neg (λw=>hz (f7 w))]
   show _=(λz:Int×α=>((.inl z.1,f z.2):Key×V)) (if z.1=y then (z.1,a) else z)
   rw [if_neg hz]
 ·rw [if_neg h,if_neg h,aB]
  rfl
theorem yc {α:Type}{l:List (Int×α)}{y:Int}{a:α}{z:Int×α}(h:z∈qy l y a):z∈l\/z=(y,a):=by
 unfold qy at h
 by_cases c:(l.any λz=>decide (z.1=y))=true
 ·rw [if_pos c] at h
  obtain ⟨u,hu,e⟩:=List.mem_map.mp h
  by_cases q:u.1=y
  ·rw [if_pos q,q] at e
   exact .inr e.symm
  ·rw [if_neg q] at e
   exact .inl (e ▸ hu)
 ·rw [if_neg c] at h
  rcases List.mem_append.mp h with q | q
  ·exact .inl q
  ·exact .inr (by simpa using q)
theorem vk {α:Type}(l:List (Int×α)) (y:Int) (a:α):(qy l y a).length<=l.length+1:=by
 unfold qy
 split
 ·rw [af];omega
 ·rw [ax];exact ao _
theorem yA {α:Type}{l:List (Int×α)}{y:Int}{a:α}(h:(l.map (·.1)).Nodup):((qy l y a).map (·.1)).Nodup:=by
 unfold qy
 by_cases c:(l.any λz=>decide (z.1=y))=true
 ·rw [if_pos c,bF]
  have:(l.map ((λx=>x.1) ∘ λz=>if z.1=y then (z.1,a) else z))=l.map (·.1):=cT λz _=>by
   show (if z.1=y then (z.1,a) else z).1=z.1
   split <;> rfl
  rw [this]
  exact h
 ·rw [if_neg c,aB]
  refine vh h λz=>c ?_
  obtain ⟨u,hu,e⟩:=List.mem_map.mp z
  exact List.any_eq_true.mpr ⟨u,hu,decide_eq_true e⟩
structure ScN where
 p:Addr
 q:Addr
 sg:Addr
 gl:Addr
 ll:Addr
 xs:List V
 ys:List V
 zs:List V
 rs:List Rch
 ts:List T3
 ws:List (List Int)
 sk:List (Int×Addr)
 lds:List (Addr×List (Int×Int))
structure ScAt (H:Hp) (sd:Addr) (c:ScN):Prop where
 sd:H sd=some (.dK (scK c.p c.q c.sg c.gl c.ll))
 p:H c.p=some (.lst c.xs)
 rv:jJ H c.xs c.rs
 q:H c.q=some (.lst c.ys)
 r3:qg H c.ys c.ts
 gl:H c.gl=some (.lst c.zs)
 gi:zS H c.zs (c.ws.map (je c.rs))
 ll:H c.ll=some (.lst (c.lds.map λx=>V.ref x.1))
 sg:Rd H c.sg (.dK (c.sk.map kvA))
 sk:∀z∈c.sk,∃t,H z.2=some (zo t)/\good t=true
 ld:∀x∈c.lds,Rd H x.1 (.dK (x.2.map kvI))
structure ScOk (b:Addr) (c:ScN):Prop where
 gr:Grown c.rs
 l1:1<=c.rs.length
 l8:c.rs.length<=8
 t1:1<=c.ts.length
 t2:c.ts.length<=12
 tg:c.ts.all good=true
 ro:jO c.rs c.ws
 ldl:c.lds.length=c.ws.length
 nd:(c.lds.map (·.1)).Nodup
 ns:∀x∈c.lds,x.1≠c.sg
 pb:c.p≠b
 qb:c.q≠b
 gb:c.gl≠b
 lb:c.ll≠b
 zb:V.ref b∉c.zs
 k1:(c.sk.map (·.1)).Nodup
 k2:∀z∈c.sk,0<=z.1/\z.1<=99
 k3:c.sk.length<=10
 m1:∀x∈c.lds,(x.2.map (·.1)).Nodup
 m2:∀x∈c.lds,∀z∈x.2,0<=z.1/\z.1<=99/\1<=z.2/\z.2<=9
 m3:∀x∈c.lds,x.2.length<=10
def Fr3 (N M:Addr->Prop) (H H':Hp):Prop:=∀c o,H c=some o->¬N c->H' c=some o\/(M c/\∃ob kvs,o = .dK kvs/\H' c=some (.frz ob (.dK kvs)))
theorem Fr3.at {N M:Addr->Prop}{H H':Hp}(f:Fr3 N M H H') {c:Addr}{o:HO}(h:H c=some o) (n:¬N c) (d:∀kvs,o≠.dK kvs):H' c=some o:=by
 rcases f c o h n with h1 | ⟨_,ob,kvs,e,_⟩
 ·exact h1
 ·exact absurd e (d kvs)
theorem Fr3.rd {N M:Addr->Prop}{H H':Hp}(f:Fr3 N M H H') {c:Addr}{kvs:List (Key×V)}(n:¬N c) (h:Rd H c (.dK kvs)):Rd H' c (.dK kvs):=by
 rcases h with h | ⟨o,h⟩
 ·rcases f c _ h n with h1 | ⟨_,ob,kvs',e,h1⟩
  ·exact .inl h1
  ·cases e
   exact .inr ⟨ob,h1⟩
 ·exact .inr ⟨o,f.at h n (by walk_at "w")⟩
theorem pmM {α β:Type}{F G:α->β->Prop}:∀{l₁:List α}{l₂:List β},cO F l₁ l₂->(∀v∈l₁,∀w,F v w->G v w)->cO G l₁ l₂
 | _,_,.nil,_=>.nil
 | _,_,.cons q r,h=>.cons (h _ (aG ..) _ q) (pmM r λv hv=>h v (aD _ hv))
theorem ScAt.keep {N M:Addr->Prop}{H H':Hp}{sd:Addr}{c:ScN}(S:ScAt H sd c) (f:Fr3 N M H H') (nT:∀a xs,H a=some (.tup xs)->¬N a) (nsd:¬N sd) (msd:¬M sd) (np:¬N c.p) (nq:¬N c.q) (ng:¬N c.gl) (nl:¬N c.ll) (nz:∀a,V.ref a∈c.zs->¬N a) (ns:¬N c.sg) (nd:∀x∈c.lds,¬N x.1):ScAt H' sd c:=by
 have t:∀a xs,H a=some (.tup xs)->H' a=some (.tup xs):=λa xs h=>f.at h (nT a xs h) (by walk_at "w")
 refine ⟨?_,f.at S.p np (by walk_at "w"),S.rv.keep t,f.at S.q nq (by walk_at "w"),S.r3.imp λ_ _ h=>t _ _ h,f.at S.gl ng (by walk_at "w"),pmM S.gi λv hv w ⟨a,ea,q⟩=>⟨a,ea,f.at q (nz a (ea ▸ hv)) (by walk_at "w")⟩,f.at S.ll nl (by walk_at "w"),f.rd ns S.sg,λz hz=>?_,λx hx=>f.rd (nd x hx) (S.ld x hx)⟩
 ·rcases f _ _ S.sd nsd with z | ⟨z,_⟩
  ·exact z
  ·exact absurd z msd
 ·obtain ⟨u,hu,g⟩:=S.sk z hz
  exact ⟨u,t _ _ hu,g⟩
theorem ScAt.same {H H':Hp}{sd:Addr}{c:ScN}(S:ScAt H sd c) (s:jm H H'):ScAt H' sd c :=
 S.keep (N:=λ_=>False) (M:=λ_=>False) (λc o h _=>.inl (s c o h)) (λ_ _ _ z=>z) id id id id id id (λ_ _=>id) id (λ_ _=>id)
theorem ScAt.ext {L b:Addr}{H H':Hp}{sd:Addr}{c:ScN}(S:ScAt H sd c) (O:ScOk b c) (B:jM L H b) (e:Ext b H H'):ScAt H' sd c:=by
 obtain ⟨_,_,_,_,_,hb,_⟩:=B
 have nr:∀{a:Addr} {kvs:List (Key×V)},Rd H a (.dK kvs)->¬a=b:=λh z=>by
  rcases h with h | ⟨o,h⟩
  ·exact absurd z (jh h hb (by walk_at "z"))
  ·exact absurd z (jh h hb (by walk_at "z"))
 exact S.keep (N:=λa=>a=b) (M:=λ_=>False) (λc o h n=>.inl (e c o h n)) (λa xs h z=>absurd z (jh h hb (by walk_at "z"))) (jh S.sd hb (by walk_at "z")) id O.pb O.qb O.gb O.lb (λa h z=>O.zb (z ▸ h)) (nr S.sg) λx hx=>nr (S.ld x hx)
def ScN.D (c:ScN) (a:Addr):Prop:=a=c.sg\/∃x∈c.lds,x.1=a
theorem VP {p q sg gl ll:Addr}{α:Type}{f:α->V}{l:List (Int×α)}:scK p q sg gl ll≠l.map λz=>((.inl z.1,f z.2):Key×V):=λz=>by
 cases l with
 | nil=>cases z
 | cons u r =>
  have:=congrArg (λl=>l.head?.map (·.1)) z
  cases this
theorem X0 {H:Hp}{sd a p q sg gl ll:Addr}{α:Type}{f:α->V}{l:List (Int×α)}(h:H sd=some (.dK (scK p q sg gl ll))) (r:Rd H a (.dK (l.map λz=>((.inl z.1,f z.2):Key×V)))):a≠sd:=λz=>by
 subst z
 rcases r with r | ⟨o,r⟩
 ·rw [r] at h
  have e:l.map (λz=>((.inl z.1,f z.2):Key×V))=scK p q sg gl ll:=by injection h with h;injection h
  exact VP e.symm
 ·rw [r] at h
  cases h
theorem ScAt.nD {H:Hp}{sd:Addr}{c:ScN}(S:ScAt H sd c):¬c.D sd:=λz=>by
 rcases z with z | ⟨x,hx,e⟩
 ·exact X0 (f:=V.ref) S.sd S.sg z.symm
 ·exact X0 (f:=V.int) S.sd (S.ld x hx) e
structure ScB (L b:Addr) (H H2:Hp) (sd:Addr) (c:ScN):Prop where
 S:ScAt H2 sd c
 O:ScOk b c
 r1:H2 c.sg=some (.dK (c.sk.map kvA))
 r2:∀x∈c.lds,H2 x.1=some (.dK (x.2.map kvI))
 B:jM L H2 b
 X:Ext b H H2
 f1:H c.sg=none
 f2:∀x∈c.lds,H x.1=none
theorem ScB.take {L b:Addr}{H H2 H3:Hp}{sd:Addr}{c:ScN}(S:ScB L b H H2 sd c) (B:jM L H3 b) (X:Ext b H2 H3):ScB L b H H3 sd c:=by
 have hb:∃xs,H2 b=some (.lst xs):=by
  obtain ⟨_,_,_,_,_,hb,_⟩:=S.B
  exact ⟨_,hb⟩
 obtain ⟨_,hb⟩:=hb
 exact ⟨S.S.ext S.O S.B X,S.O,X _ _ S.r1 (jh S.r1 hb (by walk_at "z")),λx hx=>X _ _ (S.r2 x hx) (jh (S.r2 x hx) hb (by walk_at "z")),B,S.X.trans X,S.f1,S.f2⟩
theorem ScB.same {L b:Addr}{H H2 H3:Hp}{sd:Addr}{c:ScN}(S:ScB L b H H2 sd c) (s:jm H2 H3):ScB L b H H3 sd c:=S.take (S.B.same s) (Ext.of_same s)
theorem jX {L b:Addr}{Ha Hb:Hp}(B:jM L Ha b) (e:Ext b Ha Hb):ji Ha Hb:=by
 obtain ⟨ns,a,r,c,d,h1,_⟩:=B
 exact ji.lst e h1
theorem ScB.single {L b:Addr}{H H2:Hp}{sd t:Addr}{c:ScN}{y:Int}{r:T3}(S:ScB L b H H2 sd c) (y0:0<=y) (y1:y<=99) (ht:H2 t=some (zo r)) (hg:good r=true) (hl:c.sk.length+1<=10) :
  ScB L b H (upd H2 c.sg (.dK (qc (c.sk.map kvA) (.inl y) (.ref t)))) sd { c with sk:=qy c.sk y t }:=by
 have e:qc (c.sk.map kvA) (.inl y) (.ref t)=(qy c.sk y t).map kvA:=vz V.ref c.sk y t
 rw [e]
 have nT:∀{a:Addr} {o:HO},H2 a=some o->(∀kvs,o≠.dK kvs)->(upd H2 c.sg (.dK ((qy c.sk y t).map kvA))) a=some o:=λh n=>by rw [j5 (jh h S.r1 (n _))];exact h
 have sdn:sd≠c.sg:=(X0 (f:=V.ref) S.S.sd S.S.sg).symm
 have hb:∃xs,H2 b=some (.lst xs):=by
  obtain ⟨_,_,_,_,_,hb,_⟩:=S.B
  exact ⟨_,hb⟩
 obtain ⟨_,hb⟩:=hb
 have hL:∃xs,H2 L=some (.lst xs):=by
  obtain ⟨_,_,_,_,_,_,_,hL,_⟩:=S.B
  exact ⟨_,hL⟩
 obtain ⟨_,hL⟩:=hL
 refine ⟨⟨by rw [j5 sdn];exact S.S.sd,nT S.S.p (by walk_at "w"),S.S.rv.keep λ_ _ h=>nT h (by walk_at "w"),nT S.S.q (by walk_at "w"),S.S.r3.imp λ_ _ h=>nT h (by walk_at "w"),nT S.S.gl (by walk_at "w"),pmM S.S.gi λv hv w ⟨a,ea,q⟩=>⟨a,ea,nT q (by walk_at "w")⟩,nT S.S.ll (by walk_at "w"),.inl j4,λz hz=>?_,λx hx=>.inl (by rw [j5 (S.O.ns x hx)];exact S.r2 x hx)⟩,?_,j4,λx hx=>by rw [j5 (S.O.ns x hx)];exact S.r2 x hx,S.B.put (jh S.r1 hb (by walk_at "z")) (jh S.r1 hL (by walk_at "z")),λd o hd n=>?_,S.f1,S.f2⟩
 ·rcases yc hz with z | z
  ·obtain ⟨u,hu,g⟩:=S.S.sk _ z
   exact ⟨u,nT hu (by walk_at "w"),g⟩
  ·subst z
   exact ⟨r,nT ht (by walk_at "w"),hg⟩
 ·have O:=S.O
  exact ⟨O.gr,O.l1,O.l8,O.t1,O.t2,O.tg,O.ro,O.ldl,O.nd,O.ns,O.pb,O.qb,O.gb,O.lb,O.zb,yA O.k1,λz hz=>by
   rcases yc hz with q | q
   ·exact O.k2 z q
   ·subst q;exact ⟨y0,y1⟩,aF (vk _ _ _) hl,O.m1,O.m2,O.m3⟩
 ·rw [j5 (j1 hd S.f1)]
  exact S.X d o hd n
theorem vB {α β:Type}{l:List (α×β)}{n:Nat}{a:α}{u v:β}(nd:(l.map (·.1)).Nodup) (hn:l[n]? = some (a,u)) {x:α×β}(hx:x∈l.set n (a,v)):x=(a,v)\/(x∈l/\x.1≠a):=by
 obtain ⟨i,hi,e⟩:=List.mem_iff_getElem.mp hx
 have hi':i<l.length:=by rw [dh] at hi;exact hi
 obtain ⟨hn1,hn2⟩:=List.getElem?_eq_some_iff.mp hn
 by_cases q:n=i
 ·subst q
  rw [List.getElem_set_self] at e
  exact .inl e.symm
 ·rw [List.getElem_set_ne q] at e
  refine .inr ⟨e ▸ bz hi',λz=>q ?_⟩
  have h1:(l.map (·.1))[n]'(by rw [af];exact hn1)=(l.map (·.1))[i]'(by rw [af];exact hi'):=by
   rw [dB,dB,hn2,e,z]
  rcases Nat.lt_trichotomy n i with g | g | g
  ·exact absurd h1 (List.pairwise_iff_getElem.mp nd n i _ _ g)
  ·exact g
  ·exact absurd h1.symm (List.pairwise_iff_getElem.mp nd i n _ _ g)
theorem Qz {α β:Type}{l:List (α×β)}{n:Nat}{a:α}{u v:β}(hn:l[n]? = some (a,u)):(l.set n (a,v)).map (·.1)=l.map (·.1):=by
 obtain ⟨hn1,hn2⟩:=List.getElem?_eq_some_iff.mp hn
 rw [List.map_set]
 refine fH λi=>?_
 rw [dZ]
 by_cases q:n=i
 ·subst q
  rw [if_pos rfl,if_pos (by rw [af];exact hn1),au,hn]
  rfl
 ·rw [if_neg q]
theorem ScB.leap {L b:Addr}{H H2:Hp}{sd a:Addr}{c:ScN}{n:Nat}{y m:Int}{ns:List (Int×Int)}(S:ScB L b H H2 sd c) (hn:c.lds[n]? = some (a,ns)) (y0:0<=y) (y1:y<=99) (m0:1<=m) (m1:m<=9) (hl:ns.length+1<=10) :
  ScB L b H (upd H2 a (.dK (qc (ns.map kvI) (.inl y) (.int m)))) sd { c with lds:=c.lds.set n (a,qy ns y m) }:=by
 have e:qc (ns.map kvI) (.inl y) (.int m)=(qy ns y m).map kvI:=vz V.int ns y m
 rw [e]
 have hm:=av hn
 have ra:=S.r2 _ hm
 have nT:∀{d:Addr} {o:HO},H2 d=some o->(∀kvs,o≠.dK kvs)->(upd H2 a (.dK ((qy ns y m).map kvI))) d=some o:=λh n=>by rw [j5 (jh h ra (n _))];exact h
 have sdn:sd≠a:=(X0 (f:=V.int) S.S.sd (S.S.ld _ hm)).symm
 have hb:∃xs,H2 b=some (.lst xs):=by
  obtain ⟨_,_,_,_,_,hb,_⟩:=S.B
  exact ⟨_,hb⟩
 obtain ⟨_,hb⟩:=hb
 have hL:∃xs,H2 L=some (.lst xs):=by
  obtain ⟨_,_,_,_,_,_,_,hL,_⟩:=S.B
  exact ⟨_,hL⟩
 obtain ⟨_,hL⟩:=hL
 have fs:=Qz (v:=qy ns y m) hn
 have fs2:(c.lds.set n (a,qy ns y m)).map (λx=>V.ref x.1)=c.lds.map λx=>V.ref x.1:=by
  have:=congrArg (List.map V.ref) fs
  rw [bF,bF] at this
  exact this
 have sg:c.sg≠a:=(S.O.ns _ hm).symm
 have r2:∀x∈c.lds.set n (a,qy ns y m),(upd H2 a (.dK ((qy ns y m).map kvI))) x.1=some (.dK (x.2.map kvI)):=λx hx=>by
  rcases vB S.O.nd hn hx with z | ⟨z,w⟩
  ·subst z
   exact j4
  ·rw [j5 w]
   exact S.r2 x z
 have mem:∀x∈c.lds.set n (a,qy ns y m),∃x'∈c.lds,x'.1=x.1:=λx hx=>by
  have:x.1∈(c.lds.set n (a,qy ns y m)).map (·.1):=bp hx
  rw [fs] at this
  exact List.mem_map.mp this
 have O:=S.O
 refine ⟨⟨by rw [j5 sdn];exact S.S.sd,nT S.S.p (by walk_at "w"),S.S.rv.keep λ_ _ h=>nT h (by walk_at "w"),nT S.S.q (by walk_at "w"),S.S.r3.imp λ_ _ h=>nT h (by walk_at "w"),nT S.S.gl (by walk_at "w"),pmM S.S.gi λv hv w ⟨a,ea,q⟩=>⟨a,ea,nT q (by walk_at "w")⟩,?_,.inl (by show upd _ _ _ c.sg=_;rw [j5 sg];exact S.r1),λz hz=>?_,λx hx=>.inl (r2 x hx)⟩,⟨O.gr,O.l1,O.l8,O.t1,O.t2,O.tg,O.ro,?_,?_,?_,O.pb,O.qb,O.gb,O.lb,O.zb,O.k1,O.k2,O.k3,?_,?_,?_⟩,(by show upd _ _ _ c.sg=_;rw [j5 sg];exact S.r1),r2,S.B.put (jh ra hb (by walk_at "z")) (jh ra hL (by walk_at "z")),λd o hd n=>?_,S.f1,?_⟩
 ·show _=some (HO.lst ((c.lds.set n (a,qy ns y m)).map λx=>V.ref x.1))
  rw [fs2]
  exact nT S.S.ll (by walk_at "w")
 ·obtain ⟨u,hu,g⟩:=S.S.sk _ hz
  exact ⟨u,nT hu (by walk_at "w"),g⟩
 ·show (c.lds.set n (a,qy ns y m)).length=_
  rw [dh]
  exact O.ldl
 ·show ((c.lds.set n (a,qy ns y m)).map (·.1)).Nodup
  rw [fs]
  exact O.nd
 ·intro x hx
  obtain ⟨x',h1,h2⟩:=mem x hx
  rw [<- h2]
  exact O.ns x' h1
 ·intro x hx
  rcases vB S.O.nd hn hx with z | ⟨z,w⟩
  ·subst z;exact yA (O.m1 _ hm)
  ·exact O.m1 x z
 ·intro x hx
  rcases vB S.O.nd hn hx with z | ⟨z,w⟩
  ·subst z
   intro u hu
   rcases yc hu with q | q
   ·exact O.m2 _ hm u q
   ·subst q;exact ⟨y0,y1,m0,m1⟩
  ·exact O.m2 x z
 ·intro x hx
  rcases vB S.O.nd hn hx with z | ⟨z,w⟩
  ·subst z;exact aF (vk _ _ _) hl
  ·exact O.m3 x z
 ·rw [j5 (j1 hd (S.f2 _ hm))]
  exact S.X d o hd n
 ·intro x hx
  obtain ⟨x',h1,h2⟩:=mem x hx
  rw [<- h2]
  exact S.f2 x' h1
theorem put4 {p q sg gl:Addr}:qc (qM [] [(.inr "reaches",.ref p),(.inr "rows",.ref q),(.inr "single",.ref sg)]) (.inr "grounds") (.ref gl)=[((.inr "reaches",.ref p):Key×V),(.inr "rows",.ref q),(.inr "single",.ref sg),(.inr "grounds",.ref gl)]:=by
 have e1:(qc [] (.inr "reaches") (.ref p):List (Key×V))=[(.inr "reaches",.ref p)]:=y8 _ zV
 have e2:qc [((.inr "reaches",.ref p):Key×V)] (.inr "rows") (.ref q)=[(.inr "reaches",.ref p),(.inr "rows",.ref q)]:=y8 _ ((jp (show (aI (ai "reaches"):Key)≠aI (ai "rows") by decide +kernel)).trans zV)
 have e3:qc [((.inr "reaches",.ref p):Key×V),(.inr "rows",.ref q)] (.inr "single") (.ref sg)=[(.inr "reaches",.ref p),(.inr "rows",.ref q),(.inr "single",.ref sg)]:=y8 _ ((jp (show (aI (ai "reaches"):Key)≠aI (ai "single") by decide +kernel)).trans ((jp (show (aI (ai "rows"):Key)≠aI (ai "single") by decide +kernel)).trans zV))
 have e4:qc [((.inr "reaches",.ref p):Key×V),(.inr "rows",.ref q),(.inr "single",.ref sg)] (.inr "grounds") (.ref gl)=[((.inr "reaches",.ref p):Key×V),(.inr "rows",.ref q),(.inr "single",.ref sg),(.inr "grounds",.ref gl)]:=y8 _ ((jp (show (aI (ai "reaches"):Key)≠aI (ai "grounds") by decide +kernel)).trans ((jp (show (aI (ai "rows"):Key)≠aI (ai "grounds") by decide +kernel)).trans ((jp (show (aI (ai "single"):Key)≠aI (ai "grounds") by decide +kernel)).trans zV)))
 have e:qM [] [((.inr "reaches",.ref p):Key×V),(.inr "rows",.ref q),(.inr "single",.ref sg)]=[(.inr "reaches",.ref p),(.inr "rows",.ref q),(.inr "single",.ref sg)]:=by
  show qc (qc (qc ([]:List (Key×V)) (.inr "reaches") (.ref p)) (.inr "rows") (.ref q)) (.inr "single") (.ref sg)=_
  rw [e1,e2,e3]
 rw [e,e4]
theorem put5 {p q sg gl ll:Addr}:qc [((.inr "reaches",.ref p):Key×V),(.inr "rows",.ref q),(.inr "single",.ref sg),(.inr "grounds",.ref gl)] (.inr "leaps") (.ref ll)=scK p q sg gl ll :=
 y8 _ ((jp (show (aI (ai "reaches"):Key)≠aI (ai "leaps") by decide +kernel)).trans ((jp (show (aI (ai "rows"):Key)≠aI (ai "leaps") by decide +kernel)).trans ((jp (show (aI (ai "single"):Key)≠aI (ai "leaps") by decide +kernel)).trans ((jp (show (aI (ai "grounds"):Key)≠aI (ai "leaps") by decide +kernel)).trans zV))))
theorem JJ (p q sg gl:Addr):qr [((.inr "reaches",.ref p):Key×V),(.inr "rows",.ref q),(.inr "single",.ref sg),(.inr "grounds",.ref gl)] (.inr "grounds")=some (.ref gl):=(jp (show (aI (ai "reaches"):Key)≠aI (ai "grounds") by decide +kernel)).trans ((jp (show (aI (ai "rows"):Key)≠aI (ai "grounds") by decide +kernel)).trans ((jp (show (aI (ai "single"):Key)≠aI (ai "grounds") by decide +kernel)).trans xc))
theorem Qx {rs:List Rch}(G:Grown rs):∀r∈rs,r.2.length<=12:=λr hr=>by
 obtain ⟨i,hi,e⟩:=List.mem_iff_getElem.mp hr
 have:=kQ G.ok (aa hi)
 rw [e] at this
 unfold okR at this
 rw [bh,bh] at this
 have:=of_decide_eq_true this.1.2
 omega
theorem YQ {v:Int}(a:0<=v) (b:v<3):∃n,atI [V.int 1,V.int 4,V.int 9] v=some (V.int n)/\0<n/\n<=9:=by
 have h:v=0\/v=1\/v=2:=()
 rcases h with rfl | rfl | rfl
 ·exact ⟨1,rfl,(),()⟩
 ·exact ⟨4,rfl,(),()⟩
 ·exact ⟨9,rfl,(),()⟩
theorem Yu {v:Int}(a:0<=v) (b:v<3):∃n,atI [V.int 1,V.int 3,V.int 7] v=some (V.int n)/\0<n/\n<=7:=by
 have h:v=0\/v=1\/v=2:=()
 rcases h with rfl | rfl | rfl
 ·exact ⟨1,rfl,(),()⟩
 ·exact ⟨3,rfl,(),()⟩
 ·exact ⟨7,rfl,(),()⟩
theorem UZ {v:Int}(a:0<=v) (b:v<2):∃n,atI [V.int 2,V.int 9] v=some (V.int n)/\0<n/\n<=9:=by
 have h:v=0\/v=1:=()
 rcases h with rfl | rfl
 ·exact ⟨2,rfl,(),()⟩
 ·exact ⟨9,rfl,(),()⟩
theorem wP {rs:List Rch}(L:qX rs) (h:1<=rs.length):1<=(jk rs).length:=by
 have:(rs.length-1)∈jk rs:=by
  refine List.mem_filter.mpr ⟨List.mem_range.mpr (),?_⟩
  unfold jE
  rw [decide_eq_false]
  ·rfl
  ·intro z
   have:=Q6 L z
   omega
 exact fF this
def QA:Sp:=λvs H Q _=>∃(L b:Addr),vs=[.ref b]/\jM L H b/\∀sd H' c,jM L H' b->Ext b H H'->ScAt H' sd c->ScOk b c->Q (.ref sd) H'
theorem qz:FnScope ["_law_box_here","_law_reaches_here","_law_scene_here","_law_turn","_law_lane"] ["_law_box_here"] (j8 xz):=by walk_at "s"
theorem Zv {f:Addr}{fd:FuncData}(nb:Nb2 mg) (c_law_take:Cal P w K mg base 2 "_law_take" ["_law_box_here","_law_size"] xk) (c_law_reaches:Cal P w K mg base 4 "_law_reaches" ["_law_box_here"] uN) (c_law_round:Cal P w K mg base 4 "_law_round" ["_law_box_here"] uh) (c_law_ground:Cal P w K mg base 1 "_law_ground" ["_law_reaches_here","_law_road"] (Jf K)) (c_law_roads:Cal P w K mg base 1 "_law_roads" ["_law_reaches_here"] (Jm K)) (c_law_year:Cal P w K mg base 3 "_law_year" ["_law_box_here"] JQ) (c_law_weather:Cal P w K mg base 3 "_law_weather" ["_law_box_here"] vD)
  (F:Fun K "_law_scene" "_law_scene" xz f fd):FnOk P w K mg base CX0 5 f fd ["_law_box_here"] QA:=by
 refine F.ok qz (λvs H Q E h=>?_) (λcdv A outer s H vs Q E hr h=>?_)
 ·obtain ⟨L,b,rfl,_⟩:=h
  rfl
 ·obtain ⟨L,b,rfl,B,k⟩:=h
  refine ⟨_,(j6 (vU (i:=1) qz.nd rfl (lA rfl) (jd c_law_reaches (hr.mono ⋯) rfl (j0 (pv 0) j2)))
   (j6 (jy 2 qz.nd (Yx (uD jt (pv 1) (uD jt (jd c_law_round (hr.mono ⋯) rfl (j0 (pv 0) j2)) (uD jt vC Yd))) rfl rfl (λz=>by cases z) ⋯))
   (j6 (xx (jG hr) (pv 2) jt (jN (osc:=(j8 xz)) (ON:=["_law_box_here","_law_reaches_here","_law_scene_here","_law_turn","_law_lane"]) (N:=["_law_road","_law_reaches_here"]) (own:=1) (caps:=[1]) ⟨rfl,∅,∅,∅,rfl,∅⟩ rfl rfl rfl (qa K (jd c_law_roads (hr.mono ⋯) rfl (j0 (pv 1) j2))) (λ_ _ _ _ _=>(jb (i:=0) (show aY (["_law_road","_law_reaches_here"]:List Str) by decide +kernel) rfl (aU rfl))) (λ_ _ _ _ _=>jv) (λ_ _ _ _ _=>(jd c_law_ground (hr.mono ⋯) rfl (j0 (pv 1) (j0 (pv 0) j2))))) rfl)
   (yX (xx (jG hr) (pv 2) jt (jN (osc:=(j8 xz)) (ON:=["_law_box_here","_law_reaches_here","_law_scene_here","_law_turn","_law_lane"]) (N:=["_law_ground_here"]) (own:=1) (caps:=[]) ⟨rfl,∅,∅,∅,rfl,∅⟩ rfl rfl rfl (qa K (jB (jG hr) (pv 2) jt (λ_ _=>rfl))) (λ_ _ _ _ _=>(jb (i:=0) (show aY (["_law_ground_here"]:List Str) by decide +kernel) rfl (aU rfl))) (λ_ _ _ _ _=>jv) (λ_ _ _ _ _=>vC)) rfl)
   (yX (xF bA rfl (qd rfl nb.b_range (j0 (jd c_law_take (hr.mono ⋯) rfl (j0 (pv 0) (j0 (jq (ja K) (jQ (j0 j7 (j0 j7 (j0 j7 j2)))) (jd c_law_take (hr.mono ⋯) rfl (j0 (pv 0) (j0 j7 j2))) (λ_ _=>rfl)) j2))) j2)) (jb (i:=3) qz.nd rfl (aU rfl)) (j9 (xx (jG hr) (jB (jG hr) (pv 2) jt (λ_ _=>rfl)) (jd c_law_year (hr.mono ⋯) rfl (j0 (pv 0) j2)) (jd c_law_weather (hr.mono ⋯) rfl (j0 (pv 0) j2)) rfl)))
   (j6 (xF bA rfl (qd rfl nb.b_range (j0 (jd c_law_take (hr.mono ⋯) rfl (j0 (pv 0) (j0 (jq (ja K) (jQ (j0 j7 (j0 j7 (j0 j7 j2)))) (jd c_law_take (hr.mono ⋯) rfl (j0 (pv 0) (j0 j7 j2))) (λ_ _=>rfl)) j2))) j2)) (jb (i:=3) qz.nd rfl (aU rfl)) (j6 (jy 4 qz.nd (jd c_law_take (hr.mono ⋯) rfl (j0 (pv 0) (j0 (jg (jf K) rfl nb.b_len aS (j0 (jB (jG hr) (pv 2) jt (λ_ _=>rfl)) j2)) j2))))
   (j9 (xx (jG hr) (jq (ja K) (jB (jG hr) (pv 2) jt (λ_ _=>rfl)) (pv 4) (λ_ _=>rfl)) (jd c_law_year (hr.mono ⋯) rfl (j0 (pv 0) j2)) (jo jR j7 (jd c_law_take (hr.mono ⋯) rfl (j0 (pv 0) (j0 (jq (ja K) (jQ (j0 j7 (j0 j7 j2))) (jd c_law_take (hr.mono ⋯) rfl (j0 (pv 0) (j0 j7 j2))) (λ_ _=>rfl)) j2)))) rfl))))
   (j9 (jn (pv 2))))))))),?_⟩
  left
  refine ⟨L,b,rfl,B,λp H1 xs rs B1 X1 hp hp1 r1 g1 l1 l8=>?_⟩
  have pb:p≠b:=B.ne hp
  left
  intro sd hsd
  have sdb:sd≠b:=B1.ne hsd
  have sd0:H sd=none:=X1.free hsd sdb
  left
  have Ba:jM L (upd H1 sd (.dK [])) b:=B1.put sdb (B1.neL hsd)
  refine ⟨L,b,rfl,Ba,λq Hb ys ts Bb Xb hq hqb r3b ht12 htg=>?_⟩
  have qb:q≠b:=Ba.ne hq
  have qsd:q≠sd:=λz=>by rw [z,j4] at hq;cases hq
  have sdB:Hb sd=some (.dK []):=Xb _ _ j4 sdb
  have pB:Hb p=some (.lst xs):=Xb _ _ (by rw [j5 (j1 hp1 hsd)];exact hp1) pb
  have rB:jJ Hb xs rs:=(r1.keep (ji.same (jm.new hsd))).keep (jX Ba Xb)
  have XB:Ext b H Hb:=(X1.trans (Ext.new hsd)).trans Xb
  left
  intro sg hsg
  have sgb:sg≠b:=Bb.ne hsg
  have sg0:H sg=none:=XB.free hsg sgb
  have sgsd:sg≠sd:=(j1 sdB hsg).symm
  left
  refine ⟨by rw [j5 sgsd.symm];exact sdB,[(.inr "reaches",.ref p),(.inr "rows",.ref q),(.inr "single",.ref sg)],rfl,by show 3<=15;decide,?_⟩
  have sC:jm Hb (upd Hb sg (.dK [])):=jm.new hsg
  have nD:∀{a:Addr} {o:HO},Hb a=some o->a≠sd->(upd (upd Hb sg (.dK [])) sd (.dK (qM [] [(.inr "reaches",.ref p),(.inr "rows",.ref q),(.inr "single",.ref sg)]))) a=some o:=λh n=>by rw [j5 n];exact sC _ _ h
  have dD:(upd (upd Hb sg (.dK [])) sd (.dK (qM [] [(.inr "reaches",.ref p),(.inr "rows",.ref q),(.inr "single",.ref sg)]))) sd=some (.dK (qM [] [(.inr "reaches",.ref p),(.inr "rows",.ref q),(.inr "single",.ref sg)])):=j4
  have pD:=nD pB (jh pB sdB (by walk_at "z"))
  have rD:jJ (upd (upd Hb sg (.dK [])) sd (.dK (qM [] [(.inr "reaches",.ref p),(.inr "rows",.ref q),(.inr "single",.ref sg)]))) xs rs:=rB.keep λ_ _ h=>nD h (jh h sdB (by walk_at "z"))
  have qD:=nD hqb qsd
  have r3D:qg (upd (upd Hb sg (.dK [])) sd (.dK (qM [] [(.inr "reaches",.ref p),(.inr "rows",.ref q),(.inr "single",.ref sg)]))) ys ts:=r3b.imp λ_ _ h=>nD h (jh h sdB (by walk_at "z"))
  have sgD:(upd (upd Hb sg (.dK [])) sd (.dK (qM [] [(.inr "reaches",.ref p),(.inr "rows",.ref q),(.inr "single",.ref sg)]))) sg=some (.dK []):=by rw [j5 sgsd];exact j4
  have BD:jM L (upd (upd Hb sg (.dK [])) sd (.dK (qM [] [(.inr "reaches",.ref p),(.inr "rows",.ref q),(.inr "single",.ref sg)]))) b:=(Bb.same sC).put sdb (B1.neL hsd)
  have XD:Ext b H (upd (upd Hb sg (.dK [])) sd (.dK (qM [] [(.inr "reaches",.ref p),(.inr "rows",.ref q),(.inr "single",.ref sg)]))):=λc o h n=>nD (XB c o h n) (j1 h sd0)
  clear nD sC hsg sdB pB rB XB hqb r3b Bb Xb hq Ba
  generalize (upd (upd Hb sg (.dK [])) sd (.dK (qM [] [(.inr "reaches",.ref p),(.inr "rows",.ref q),(.inr "single",.ref sg)])))=Hd at *
  have Ld:=jS g1.ok
  left
  refine ⟨p,xs,rs,rfl,pD,rD,Ld,(),λl He out ws hl hle w1 hR s1=>?_⟩
  left
  refine ⟨⟨_,SqL.of hle⟩,λgl hgl=>?_⟩
  have hlw:out.length=ws.length:=b8 w1
  have hws:ws.length<=6:=by rw [hR.length];exact g1.heads
  have h100:∀r∈rs,r.2.length<=100:=λr hr=>aF (Qx g1 r hr) ⋯
  have BE:=BD.same s1
  have glb:gl≠b:=BE.ne hgl
  refine jW (K:=K) (a:=l) (xs:=out) (acc:=gl) (λi σ H2=>∃(x:Option V) (zs:List V),σ=[x,some (.ref p)]/\H2 gl=some (.lst zs)/\zs.length=i/\cO (λv (w:List Int)=>∃a,v=V.ref a/\H2 a=some (.lst (w.map V.int))/\He a=none/\a≠gl) zs ((ws.take i).map (je rs))/\Ext gl He H2) ?_ ?_ ?_ ?_
  ·exact ⟨none,[],rfl,j4,rfl,.nil,Ext.put⟩
  ·rintro i σ H2 hi ⟨x,zs,rfl,h2,hz,r2,e2⟩
   exact SqL.of (e2 _ _ hle (j1 hle hgl))
  ·rintro i v σ H2 hv ⟨x,zs,rfl,h2,hz,r2,e2⟩
   obtain ⟨wy,hwy,a,rfl,ha1⟩:=Paired.get w1 hv
   have hi:=(List.getElem?_eq_some_iff.mp hwy).1
   obtain ⟨x',hx',ewy⟩:=hR.mem (av hwy)
   have ha2:=e2 _ _ ha1 (j1 ha1 hgl)
   have hr1:=s1 _ _ pD
   have hl':=yV Ld x' (x5 hx')
   have:=x5 hx'
   left
   refine ⟨p,a,xs,rs,wy,rfl,e2 _ _ hr1 (j1 hr1 hgl),(rD.keep (ji.same s1)).keep (ji.new e2 hgl),h100,ha2,by rw [ewy];exact xD Ld x' (x5 hx'),by rw [ewy];omega,λt H3 ht ht3 s3=>?_⟩
   have ta:t≠gl:=(j1 h2 ht).symm
   refine ⟨zs,s3 _ _ h2,jc (),some (.ref a),zs++[.ref t],rfl,j4,by rw [ax,hz];rfl,?_,λc o hc n=>by rw [j5 n];exact s3 _ _ (e2 c o hc n)⟩
   rw [qj (je rs) ws i wy hwy]
   exact cW (Paired.mapP r2 λv wy ⟨a,e,ha,h0,na⟩=>⟨a,e,by rw [j5 na];exact s3 _ _ ha,h0,na⟩) ⟨t,rfl,by rw [j5 ta];exact ht3,e2.free ht ta,ta⟩
  rintro σ H2 ⟨x,zs,rfl,h2,hz,r2,e2⟩
  rw [hlw,bb] at r2
  have gi2:zS H2 zs (ws.map (je rs)):=Paired.mapP r2 λv wy ⟨a,e,ha,h0,na⟩=>⟨a,e,ha⟩
  have zb:V.ref b∉zs:=λz=>by
   obtain ⟨_,a,e,_,h0,_⟩:=pm r2 _ z
   cases e
   exact absurd rfl (BE.ne h0)
  have s2:jm Hd H2:=λc o hc=>e2 _ _ (s1 _ _ hc) (j1 (s1 _ _ hc) hgl)
  have gl0:Hd gl=none:=s1.free hgl
  left
  refine ⟨sd,_,rfl,yZ.k (k:=.inr "grounds") (s2 _ _ dD) (jc (aF (zj _ _) (by show 0+3<=1000;decide))),?_⟩
  rw [put4]
  have nF:∀{a:Addr} {o:HO},H2 a=some o->(∀kvs,o≠.dK kvs)->(upd H2 sd (.dK [((.inr "reaches",.ref p):Key×V),(.inr "rows",.ref q),(.inr "single",.ref sg),(.inr "grounds",.ref gl)])) a=some o:=λh n=>by rw [j5 (jh h (s2 _ _ dD) (n _))];exact h
  have dF:(upd H2 sd (.dK [((.inr "reaches",.ref p):Key×V),(.inr "rows",.ref q),(.inr "single",.ref sg),(.inr "grounds",.ref gl)])) sd=some (.dK [((.inr "reaches",.ref p):Key×V),(.inr "rows",.ref q),(.inr "single",.ref sg),(.inr "grounds",.ref gl)]):=j4
  have pF:=nF (s2 _ _ pD) (by walk_at "w")
  have qF:=nF (s2 _ _ qD) (by walk_at "w")
  have rF:jJ (upd H2 sd (.dK [((.inr "reaches",.ref p):Key×V),(.inr "rows",.ref q),(.inr "single",.ref sg),(.inr "grounds",.ref gl)])) xs rs:=rD.keep λ_ _ h=>nF (s2 _ _ h) (by walk_at "w")
  have r3F:qg (upd H2 sd (.dK [((.inr "reaches",.ref p):Key×V),(.inr "rows",.ref q),(.inr "single",.ref sg),(.inr "grounds",.ref gl)])) ys ts:=r3D.imp λ_ _ h=>nF (s2 _ _ h) (by walk_at "w")
  have gF:=nF h2 (by walk_at "w")
  have giF:zS (upd H2 sd (.dK [((.inr "reaches",.ref p):Key×V),(.inr "rows",.ref q),(.inr "single",.ref sg),(.inr "grounds",.ref gl)])) zs (ws.map (je rs)):=Paired.mapP gi2 λv wy ⟨a,e,ha⟩=>⟨a,e,nF ha (by walk_at "w")⟩
  have sgF:(upd H2 sd (.dK [((.inr "reaches",.ref p):Key×V),(.inr "rows",.ref q),(.inr "single",.ref sg),(.inr "grounds",.ref gl)])) sg=some (.dK []):=by rw [j5 sgsd];exact s2 _ _ sgD
  have BF:jM L (upd H2 sd (.dK [((.inr "reaches",.ref p):Key×V),(.inr "rows",.ref q),(.inr "single",.ref sg),(.inr "grounds",.ref gl)])) b:=(BD.same s2).put sdb (B1.neL hsd)
  have XF:Ext b H (upd H2 sd (.dK [((.inr "reaches",.ref p):Key×V),(.inr "rows",.ref q),(.inr "single",.ref sg),(.inr "grounds",.ref gl)])):=λc o h n=>by rw [j5 (j1 h sd0)];exact s2 _ _ (XD c o h n)
  clear nF gi2 s2 h2 r2 e2 BE hgl s1 w1 hle hl pD rD qD r3D sgD BD XD dD h100
  generalize (upd H2 sd (.dK [((.inr "reaches",.ref p):Key×V),(.inr "rows",.ref q),(.inr "single",.ref sg),(.inr "grounds",.ref gl)]))=Hf at *
  have hzw:zs.length<=6:=()
  refine ⟨λσ H5=>∃c,σ=[some (.ref b),some (.ref p),some (.ref sd),none,none]/\ScB L b H H5 sd c/\c.sk=[]/\∀x∈c.lds,x.2=[],?_,?_⟩
  ·left
   refine ⟨sd,.ref gl,rfl,by rw [<- JJ p q sg gl];exact qL.k (k:=.inr "grounds") dF,?_⟩
   left
   refine ⟨⟨_,SqL.of gF⟩,λle hle=>?_⟩
   have leb:le≠b:=BF.ne hle
   refine jW (K:=K) (a:=gl) (xs:=zs) (acc:=le) (λi σ He=>∃(x:Option V) (lds:List (Addr×List (Int×Int))),σ=[x]/\He le=some (.lst (lds.map λx=>V.ref x.1))/\lds.length=i/\(∀x∈lds,He x.1=some (.dK [])/\x.2=[]/\Hf x.1=none/\x.1≠le)/\(lds.map (·.1)).Nodup/\Ext le Hf He) ?_ ?_ ?_ ?_
   ·exact ⟨none,[],rfl,j4,rfl,(λx z=>by cases z),iF,Ext.put⟩
   ·rintro i σ He hi ⟨x,lds,rfl,he,hl,hd,nn,e⟩
    exact SqL.of (e _ _ gF (j1 gF hle))
   ·rintro i v σ He hv ⟨x,lds,rfl,he,hl,hd,nn,e⟩
    have hi:=(List.getElem?_eq_some_iff.mp hv).1
    left
    intro d hd0
    have dl:d≠le:=(j1 he hd0).symm
    refine ⟨_,(by rw [j5 (c5 dl)];exact he),by rw [af];exact jc (),some v,lds++[(d,[])],rfl,(by rw [j4,aB];rfl),(by rw [ax,hl];rfl),λy hy=>?_,?_,λc o hc n=>?_⟩
    ·rcases List.mem_append.mp hy with z | z
     ·obtain ⟨h1,h2,h3,h4⟩:=hd y z
      exact ⟨by rw [j5 h4,j5 (j1 h1 hd0)];exact h1,h2,h3,h4⟩
     ·obtain rfl:y=(d,[]):=by simpa using z
      exact ⟨by rw [j5 dl];exact j4,rfl,e.free hd0 dl,dl⟩
    ·rw [aB]
     refine vh nn λz=>?_
     obtain ⟨y,hy,ey⟩:=List.mem_map.mp z
     have:=(hd y hy).1
     rw [ey,hd0] at this
     cases this
    ·rw [j5 n,j5 (j1 (e c o hc n) hd0)]
     exact e c o hc n
   ·rintro σ He ⟨x,lds,rfl,he,hl,hd,nn,e⟩
    have sE:jm Hf He:=λc o h=>e c o h (j1 h hle)
    left
    refine ⟨sd,_,rfl,yZ.k (k:=.inr "leaps") (sE _ _ dF) (by show 4<sizeLine;decide),?_⟩
    rw [put5]
    have nG:∀{a:Addr} {o:HO},He a=some o->(∀kvs,o≠.dK kvs)->(upd He sd (.dK (scK p q sg gl le))) a=some o:=λh n=>by rw [j5 (jh h (sE _ _ dF) (n _))];exact h
    have lG:∀x∈lds,(upd He sd (.dK (scK p q sg gl le))) x.1=some (.dK (x.2.map kvI)):=λx hx=>by
     obtain ⟨h1,h2,h3,h4⟩:=hd x hx
     rw [j5 (j1 dF h3).symm,h2]
     exact h1
    have sgG:(upd He sd (.dK (scK p q sg gl le))) sg=some (.dK []):=by rw [j5 sgsd];exact sE _ _ sgF
    refine ⟨⟨p,q,sg,gl,le,xs,ys,zs,rs,ts,ws,[],lds⟩,rfl,⟨⟨j4,nG (sE _ _ pF) (by walk_at "w"),rF.keep λ_ _ h=>nG (sE _ _ h) (by walk_at "w"),nG (sE _ _ qF) (by walk_at "w"),r3F.imp λ_ _ h=>nG (sE _ _ h) (by walk_at "w"),nG (sE _ _ gF) (by walk_at "w"),Paired.mapP giF λv wy ⟨a,e,ha⟩=>⟨a,e,nG (sE _ _ ha) (by walk_at "w")⟩,nG he (by walk_at "w"),.inl sgG,(λz hz=>by cases hz),λx hx=>.inl (lG x hx)⟩,
     ⟨g1,l1,l8,ht12.1,ht12.2,htg,hR,hl.trans (hz.trans hlw),nn,λx hx=>(j1 sgF (hd x hx).2.2.1).symm,pb,qb,glb,leb,zb,iF,(λz hz=>by cases hz),aJ _,(λx hx=>by rw [(hd x hx).2.1];exact iF),(λx hx=>by rw [(hd x hx).2.1];intro z hz;cases hz),(λx hx=>by rw [(hd x hx).2.1];exact aJ _)⟩,sgG,lG,(BF.same sE).put sdb (B1.neL hsd),λc o h n=>?_,sg0,λx hx=>?_⟩,rfl,λx hx=>(hd x hx).2.1⟩
    ·rw [j5 (j1 h sd0)]
     exact sE _ _ (XF c o h n)
    ·exact XF.free (hd x hx).2.2.1 (BF.ne (hd x hx).2.2.1)
  rintro σ H5 ⟨c,rfl,S5,k5,l5⟩
  clear dF pF qF rF r3F gF giF sgF BF XF zb hlw hws hz hzw
  refine ⟨λσ H6=>∃(x:Option V) (c:ScN),σ=[some (.ref b),some (.ref p),some (.ref sd),x,none]/\ScB L b H H6 sd c/\∀x∈c.lds,x.2=[],?_,?_⟩
  ·left
   refine ⟨by show 3<=sizeLine;decide,λl6 H6 hl6 hl66 s6=>?_⟩
   have S6:=S5.same s6
   have l6b:l6≠b:=S5.B.ne hl6
   left
   refine ⟨L,b,_,rfl,S6.B,⟨⋯,⋯⟩,λv7 H7 p7 q7 B7 X7=>?_⟩
   have S7:=S6.take B7 X7
   obtain ⟨n,hn,n0,n1⟩:=YQ p7 q7
   refine ⟨_,_,_,_,rfl,rfl,SqL.of (X7 _ _ hl66 l6b),hn,?_⟩
   left
   refine ⟨L,b,_,rfl,S7.B,⟨n0,()⟩,λv8 H8 p8 q8 B8 X8=>?_⟩
   have S8:=S7.take B8 X8
   left
   refine ⟨(),(),?_⟩
   refine xK (λi σ H2=>∃(x:Option V) (c:ScN),σ=[some (.ref b),some (.ref p),some (.ref sd),x,none]/\ScB L b H H2 sd c/\c.sk.length<=i/\∀x∈c.lds,x.2=[]) ?_ ?_ ?_
   ·exact ⟨none,c,rfl,S8,by rw [k5];exact ao _,l5⟩
   ·rintro i σ H2 hi ⟨x,c,rfl,S,hk,hl⟩
    left
    refine ⟨L,b,rfl,S.B,λt H9 r B9 X9 ht hg=>?_⟩
    have S9:=S.take B9 X9
    left
    refine ⟨sd,.ref c.sg,rfl,by rw [<- zv c.p c.q c.sg c.gl c.ll];exact qL.k (k:=.inr "single") S9.S.sd,?_⟩
    left
    refine ⟨L,b,rfl,S9.B,λy H10 y0 y1 B10 X10=>?_⟩
    have S10:=S9.take B10 X10
    refine ⟨c.sg,_,rfl,yZ.k (k:=.inl y) S10.r1 (by rw [af];exact jc (by have:=S10.O.k3;omega)),?_⟩
    exact ⟨_,{ c with sk:=qy c.sk y t },rfl,S10.single y0 y1 (X10 _ _ ht (S9.B.ne_tup ht)) hg (),aF (vk _ _ _) (),hl⟩
   ·rintro σ H2 ⟨x,c,rfl,S,hk,hl⟩
    exact ⟨x,c,rfl,S,hl⟩
  clear S5 k5 l5
  rintro σ H6 ⟨x,c,rfl,S6,l6⟩
  left
  refine ⟨by show 3<=sizeLine;decide,λl7 H7 hl7 hl77 s7=>?_⟩
  have S7:=S6.same s7
  have l7b:l7≠b:=S6.B.ne hl7
  left
  refine ⟨L,b,_,rfl,S7.B,⟨⋯,⋯⟩,λv8 H8 p8 q8 B8 X8=>?_⟩
  have S8:=S7.take B8 X8
  obtain ⟨n,hn,n0,n1⟩:=Yu p8 q8
  refine ⟨_,_,_,_,rfl,rfl,SqL.of (X8 _ _ hl77 l7b),hn,?_⟩
  left
  refine ⟨L,b,_,rfl,S8.B,⟨n0,()⟩,λv9 H9 p9 q9 B9 X9=>?_⟩
  have S9:=S8.take B9 X9
  left
  refine ⟨(),(),?_⟩
  refine xK (λi σ H2=>∃(x y:Option V) (c:ScN),σ=[some (.ref b),some (.ref p),some (.ref sd),x,y]/\ScB L b H H2 sd c/\∀x∈c.lds,x.2.length<=i) ?_ ?_ ?_
  ·exact ⟨x,none,c,rfl,S9,λx hx=>by rw [l6 x hx];exact ao _⟩
  ·rintro i σ H2 hi ⟨x,y',c,rfl,S,hl⟩
   have hw1:1<=c.ws.length:=by
    rw [S.O.ro.length]
    exact wP (jS S.O.gr.ok) S.O.l1
   have hzl:c.zs.length=c.ws.length:=(b8 S.S.gi).trans (af _)
   have hw6:c.ws.length<=6:=by rw [S.O.ro.length];exact S.O.gr.heads
   left
   refine ⟨sd,.ref c.gl,rfl,by rw [<- yw c.p c.q c.sg c.gl c.ll];exact qL.k (k:=.inr "grounds") S.S.sd,?_⟩
   left
   refine ⟨c.gl,_,rfl,.inl (SqL.of S.S.gl),?_⟩
   left
   refine ⟨L,b,_,rfl,S.B,⟨(),()⟩,λln H10 ln0 ln1 B10 X10=>?_⟩
   have S10:=S.take B10 X10
   left
   refine ⟨by show 2<=sizeLine;decide,λl11 H11 hl11 hl11' s11=>?_⟩
   have S11:=S10.same s11
   have l11b:l11≠b:=S10.B.ne hl11
   left
   refine ⟨L,b,_,rfl,S11.B,⟨⋯,⋯⟩,λv12 H12 p12 q12 B12 X12=>?_⟩
   have S12:=S11.take B12 X12
   obtain ⟨n,hn,n0,n1⟩:=UZ p12 q12
   refine ⟨_,_,_,_,rfl,rfl,SqL.of (X12 _ _ hl11' l11b),hn,?_⟩
   left
   refine ⟨L,b,_,rfl,S12.B,⟨n0,()⟩,λv13 H13 p13 q13 B13 X13=>?_⟩
   have S13:=S12.take B13 X13
   left
   have hll:ln.toNat<c.lds.length:=by rw [S.O.ldl];omega
   obtain ⟨⟨a,ns⟩,ha⟩:∃z,c.lds[ln.toNat]? = some z:=⟨_,aa hll⟩
   refine ⟨sd,.ref c.ll,rfl,by rw [<- wk c.p c.q c.sg c.gl c.ll];exact qL.k (k:=.inr "leaps") S13.S.sd,?_⟩
   left
   refine ⟨_,_,_,_,rfl,rfl,SqL.of S13.S.ll,xl ln0 (v:=V.ref a) (by rw [au,ha];rfl),?_⟩
   left
   refine ⟨L,b,rfl,S13.B,λy H14 y0 y1 B14 X14=>?_⟩
   have S14:=S13.take B14 X14
   have hns:=hl _ (av ha)
   refine ⟨a,_,rfl,yZ.k (k:=.inl y) (S14.r2 _ (av ha)) (by rw [af];exact jc (by have:ns.length<=i:=hns;omega)),?_⟩
   have hns:ns.length<=i:=hns
   refine ⟨_,_,{ c with lds:=c.lds.set ln.toNat (a,qy ns y (1+v13)) },rfl,S14.leap ha y0 y1 () () (),λx hx=>?_⟩
   rcases vB S.O.nd ha hx with z | ⟨z,_⟩
   ·subst z
    exact aF (vk _ _ _) ()
   ·exact Nat.le_succ_of_le (hl x z)
  ·rintro σ H2 ⟨x,y',c,rfl,S,hl⟩
   left
   exact k sd H2 c S.B S.X S.S S.O
theorem IceNew.made {C Pt p dx:Addr}{H H':Hp}{g:IceG}{o o':HO}(hp:H p=none) (hd:H dx=none) (I:IceNew C Pt (upd (upd H dx o) p o') H' p g):IceNew C Pt H H' p g:=by
 have s:jm H (upd (upd H dx o) p o'):=λc u h=>by rw [j5 (j1 h hp),j5 (j1 h hd)];exact h
 exact ⟨I.at_,λc u h n m=>I.keep c u (s c u h) n m,s.free I.va,s.free I.cy,s.free I.sl,s.free I.ye,s.free I.le,λa z=>s.free (I.zs a z),I.kvs,λx hx=>⟨s.free (I.lds x hx).1,(I.lds x hx).2⟩,I.ll,I.nd,I.ny,I.sl2⟩
structure IceFr (H:Hp) (p:Addr) (g:IceG):Prop where
 p:H p=none
 va:H g.va=none
 cy:H g.cy=none
 sl:H g.sl=none
 ye:H g.ye=none
 le:H g.le=none
 zs:∀a,V.ref a∈g.zs->H a=none
 lds:∀x∈g.lds,H x.1=none
theorem IceAt.stay {C p:Addr}{H H2 H3:Hp}{g:IceG}(I:IceAt C H2 p g) (F:IceFr H p g) (f:∀a o,H2 a=some o->H a=none->H3 a=some o) (t:ji H2 H3):IceAt C H3 p g :=
 ⟨f _ _ I.ob F.p,f _ _ I.va F.va,I.rs.keep t,f _ _ I.cy F.cy,I.rows.imp λ_ _ q=>t _ _ q,f _ _ I.sl F.sl,pmM I.slopes λv hv w ⟨a,ea,q⟩=>⟨a,ea,f _ _ q (F.zs a (ea ▸ hv))⟩,f _ _ I.ye F.ye,f _ _ I.le F.le,λx hx=>f _ _ (I.lds x hx) (F.lds x hx)⟩
theorem Fr3.ext {N M:Addr->Prop}{H H2 H3:Hp}{a:Addr}(f:Fr3 N M H H2) (e:Ext a H2 H3) (ha:H a=none):Fr3 N M H H3:=λc o h n=>by
 have ca:c≠a:=j1 h ha
 rcases f c o h n with q | ⟨m,ob,kvs,eo,q⟩
 ·exact .inl (e _ _ q ca)
 ·exact .inr ⟨m,ob,kvs,eo,e _ _ q ca⟩
theorem Fr3.same {N M:Addr->Prop}{H H2 H3:Hp}(f:Fr3 N M H H2) (e:jm H2 H3):Fr3 N M H H3:=λc o h n=>by
 rcases f c o h n with q | ⟨m,ob,kvs,eo,q⟩
 ·exact .inl (e _ _ q)
 ·exact .inr ⟨m,ob,kvs,eo,e _ _ q⟩
theorem Fr3.frz {N M:Addr->Prop}{H H2:Hp}{a:Addr}{ob:Obj}{kvs:List (Key×V)}(f:Fr3 N M H H2) (h:H2 a=some (.dK kvs)) (m:M a):Fr3 N M H (upd H2 a (.frz ob (.dK kvs))):=λc o hc n=>by
 by_cases e:c=a
 ·subst e
  rcases f c o hc n with q | ⟨_,ob',kvs',eo,q⟩
  ·rw [h] at q
   cases q
   exact .inr ⟨m,ob,kvs,rfl,j4⟩
  ·rw [h] at q
   cases q
 ·rw [j5 e]
  exact f c o hc n
theorem XN {H:Hp}{a:Addr}{ob:Obj}{kvs:List (Key×V)}(h:H a=some (.dK kvs)):ji H (upd H a (.frz ob (.dK kvs))):=λc xs q=>by rw [j5 (jh q h (by walk_at "z"))];exact q
theorem Ym {H:Hp}{a Pt:Addr}{ob:Obj}{kvs:List (Key×V)}(T:qi H Pt) (h:H a=some (.dK kvs)):qi (upd H a (.frz ob (.dK kvs))) Pt:=by
 rcases T with q | ⟨c,q,q'⟩
 ·exact .inl (by rw [j5 (jh q h (by walk_at "z"))];exact q)
 ·exact .inr ⟨c,by rw [j5 (jh q h (by walk_at "z"))];exact q,by rw [j5 (jh q' h (by walk_at "z"))];exact q'⟩
theorem Jk {H H':Hp}{a Pt:Addr}{kvs:List (Key×V)}(T:qi H Pt) (h:H a=some (.dK kvs)) (e:Ext a H H'):qi H' Pt:=by
 rcases T with q | ⟨c,q,q'⟩
 ·exact .inl (e _ _ q (jh q h (by walk_at "z")))
 ·exact .inr ⟨c,e _ _ q (jh q h (by walk_at "z")),e _ _ q' (jh q' h (by walk_at "z"))⟩
theorem Vr {ns:List (Int×Addr)}{i:Nat}{q:Key×V}(h:(ns.map kvA)[i]? = some q):∃z,ns[i]? = some z/\q=kvA z:=by
 rw [au] at h
 cases e:ns[i]? with
 | none=>rw [e] at h;cases h
 | some z=>rw [e] at h;cases h;exact ⟨z,rfl,rfl⟩
theorem vJ:∀{ns:List (Int×Addr)},(ns.map (·.1)).Nodup->∀{z:Int×Addr},z∈ns->qr (ns.map kvA) (.inl z.1)=some (.ref z.2)
 | [],_,z,h=>by cases h
 | q::r,nd,z,h=>by
  rw [aN] at nd
  obtain ⟨h1,h2⟩:=List.nodup_cons.mp nd
  rw [aN]
  rcases List.mem_cons.mp h with e | e
  ·subst e
   exact xc
  ·have ne:¬q.1=z.1:=λw=>h1 (by rw [w];exact bp e)
   show qr ((.inl q.1,.ref q.2)::r.map kvA) (.inl z.1)=_
   rw [jp (λw=>ne (f7 w))]
   exact vJ h2 e
theorem ZB {α:Type}{l:List (Int×α)}{y:Int}{a:α}(h:y∉l.map (·.1)):qy l y a=l++[(y,a)]:=by
 unfold qy
 rw [if_neg]
 intro z
 obtain ⟨u,hu,e⟩:=List.any_eq_true.mp z
 exact h (of_decide_eq_true e ▸ bp hu)
theorem Ql {α:Type}{l:List (Int×α)}(nd:(l.map (·.1)).Nodup) {i:Nat}{z:Int×α}(h:l[i]? = some z):z.1∉(l.take i).map (·.1):=λm=>by
 obtain ⟨hi,e⟩:=List.getElem?_eq_some_iff.mp h
 obtain ⟨u,hu,eu⟩:=List.mem_map.mp m
 obtain ⟨j,hj,ej⟩:=List.mem_iff_getElem.mp hu
 rw [aM] at hj
 rw [nE] at ej
 have h1:(l.map (·.1))[j]'(by rw [af];omega)=(l.map (·.1))[i]'(by rw [af];exact hi):=by rw [dB,dB,ej,e,eu]
 exact absurd h1 (List.pairwise_iff_getElem.mp nd j i _ _ ())
theorem JF {α:Type}{f:α->V}{l:List (Int×α)}(nd:(l.map (·.1)).Nodup) {i:Nat}{z:Int×α}(h:l[i]? = some z):qc ((l.take i).map λz=>((.inl z.1,f z.2):Key×V)) (.inl z.1) (f z.2)=(l.take (i+1)).map λz=>((.inl z.1,f z.2):Key×V):=by
 rw [vz f,ZB (Ql nd h),bW,h]
 rfl
structure LdN (g0:List (Addr×List (Key×V))) (cl:List (Addr×List (Int×Int))) (i n:Nat) (lds:List (Addr×List (Key×V))):Prop where
 fst:lds.map (·.1)=g0.map (·.1)
 at_:∀j x,lds[j]? = some x->∃y,cl[j]? = some y/\x.2=(if j<i then y.2 else if j=i then y.2.take n else []).map kvI
theorem LdN.len {g0 lds:List (Addr×List (Key×V))}{cl:List (Addr×List (Int×Int))}{i n:Nat}(h:LdN g0 cl i n lds):lds.length=g0.length:=by
 have:=congrArg lX h.fst
 rwa [af,af] at this
theorem LdN.next {g0 lds:List (Addr×List (Key×V))}{cl:List (Addr×List (Int×Int))}{i n:Nat}{y:Addr×List (Int×Int)}(h:LdN g0 cl i n lds) (hy:cl[i]? = some y) (hn:y.2.length<=n):LdN g0 cl (i+1) 0 lds:=⟨h.fst,λj x hx=>by
 obtain ⟨u,hu,e⟩:=h.at_ j x hx
 refine ⟨u,hu,?_⟩
 rw [e]
 by_cases a:j<i
 ·rw [if_pos a,if_pos ()]
 ·rw [if_neg a]
  by_cases b:j=i
  ·subst b
   rw [hy] at hu
   cases hu
   rw [if_pos rfl,if_pos (),bI hn]
  ·rw [if_neg b,if_neg ()]
   split
   ·rfl
   ·rfl⟩
theorem LdN.put {g0 lds:List (Addr×List (Key×V))}{cl:List (Addr×List (Int×Int))}{i n:Nat}{y:Addr×List (Int×Int)}{z:Int×Int}{a:Addr}{kvs:List (Key×V)}(h:LdN g0 cl i n lds) (hy:cl[i]? = some y) (nd:(y.2.map (·.1)).Nodup) (hz:y.2[n]? = some z) (ha:lds[i]? = some (a,kvs)):LdN g0 cl i (n+1) (yb lds i (qc kvs (.inl z.1) (.int z.2))):=by
 obtain ⟨u,hu,e⟩:=h.at_ i _ ha
 rw [hy] at hu
 cases hu
 rw [if_neg (c3 i),if_pos rfl] at e
 have e2:qc kvs (.inl z.1) (.int z.2)=(y.2.take (n+1)).map kvI:=by
  rw [show kvs=(y.2.take n).map kvI from e]
  exact JF (f:=V.int) nd hz
 refine ⟨?_,λj x hx=>?_⟩
 ·rw [<- h.fst]
  unfold yb
  rw [ak,ha]
  exact Qz ha
 ·unfold yb at hx
  rw [dZ] at hx
  by_cases b:i=j
  ·subst b
   rw [if_pos rfl,if_pos (List.getElem?_eq_some_iff.mp ha).1] at hx
   cases hx
   exact ⟨y,hy,by rw [if_neg (c3 i),if_pos rfl];exact e2⟩
  ·rw [if_neg b] at hx
   obtain ⟨u,hu,e⟩:=h.at_ j x hx
   refine ⟨u,hu,?_⟩
   rw [e]
   by_cases c:j<i
   ·rw [if_pos c,if_pos c]
   ·rw [if_neg c,if_neg c,if_neg (λq=>b q.symm),if_neg (λq=>b q.symm)]
theorem ScAt.fr {Pt sd:Addr}{H H':Hp}{c:ScN}(S:ScAt H sd c) (T:qi H Pt) (f:Fr3 (λa=>a=Pt) c.D H H'):ScAt H' sd c:=by
 obtain ⟨ps,hP⟩:=T.ne
 have n:∀{a:Addr} {o:HO},H a=some o->(∀ps,o≠.tbl ps)->¬a=Pt:=λh q=>jh h hP (q _)
 have nr:∀{a:Addr} {kvs:List (Key×V)},Rd H a (.dK kvs)->¬a=Pt:=λh=>by
  rcases h with h | ⟨o,h⟩
  ·exact n h (by walk_at "w")
  ·exact n h (by walk_at "w")
 exact S.keep f (λa xs h=>n h (by walk_at "w")) (n S.sd (by walk_at "w")) S.nD (n S.p (by walk_at "w")) (n S.q (by walk_at "w")) (n S.gl (by walk_at "w")) (n S.ll (by walk_at "w")) (λa h=>by
  obtain ⟨w,a',e,q⟩:=pm S.gi _ h
  cases e
  exact n q (by walk_at "w")) (nr S.sg) λx hx=>nr (S.ld x hx)
theorem ScAt.inD {H:Hp}{sd a:Addr}{c:ScN}(S:ScAt H sd c) (h:c.D a):∃o,H a=some o:=by
 have r:∃kvs,Rd H a (.dK kvs):=by
  rcases h with h | ⟨x,hx,e⟩
  ·exact ⟨_,h ▸ S.sg⟩
  ·exact ⟨_,e ▸ S.ld x hx⟩
 obtain ⟨_,r | ⟨o,r⟩⟩:=r
 ·exact ⟨_,r⟩
 ·exact ⟨_,r⟩
theorem Y9 {a:Addr}{kvs:List (Key×V)}{o:Obj}{H H4:Hp}(f:Fz a kvs o H H4):ji H H4:=λc xs q=>by
 rcases f.2 with rfl | ⟨h,rfl⟩
 ·exact q
 ·exact XN h c xs q
theorem UB {N M:Addr->Prop}{a:Addr}{kvs:List (Key×V)}{o:Obj}{H H2 H4:Hp}(f:Fz a kvs o H2 H4) (r:Fr3 N M H H2) (m:M a):Fr3 N M H H4:=by
 rcases f.2 with rfl | ⟨h,rfl⟩
 ·exact r
 ·exact r.frz h m
theorem Vn {a Pt:Addr}{kvs:List (Key×V)}{o:Obj}{H H4:Hp}(f:Fz a kvs o H H4) (T:qi H Pt):qi H4 Pt:=by
 rcases f.2 with rfl | ⟨h,rfl⟩
 ·exact T
 ·exact Ym T h
structure MdI (C Pt p:Addr) (c:ScN) (H H2:Hp) (g:IceG):Prop where
 I:IceAt C H2 p g
 F:IceFr H p g
 R:Fr3 (λa=>a=Pt) c.D H H2
 T:qi H2 Pt
theorem MdI.frz {C Pt p sd a:Addr}{c:ScN}{H H2 H4:Hp}{g:IceG}{kvs:List (Key×V)}{o:Obj}(M:MdI C Pt p c H H2 g) (S:ScAt H sd c) (h:c.D a) (f:Fz a kvs o H2 H4):MdI C Pt p c H H4 g:=by
 obtain ⟨_,ha⟩:=S.inD h
 exact ⟨M.I.stay M.F (λb u hb n=>f.at hb (j1 ha n).symm) (Y9 f),M.F,UB f M.R h,Vn f M.T⟩
theorem MdI.same {C Pt p:Addr}{c:ScN}{H H2 H4:Hp}{g:IceG}(M:MdI C Pt p c H H2 g) (s:jm H2 H4):MdI C Pt p c H H4 g:=⟨M.I.same s,M.F,M.R.same s,M.T.same s⟩
theorem LdN.mem {g0 lds:List (Addr×List (Key×V))}{cl:List (Addr×List (Int×Int))}{i n:Nat}(h:LdN g0 cl i n lds) {x:Addr×List (Key×V)}(hx:x∈lds):∃y∈g0,y.1=x.1:=by
 have:x.1∈g0.map (·.1):=h.fst ▸ bp hx
 obtain ⟨y,hy,e⟩:=List.mem_map.mp this
 exact ⟨y,hy,e⟩
def Z9 (C Pt:Addr):Sp:=λvs H Q _=>∃(sd b:Addr) (c:ScN),vs=[.ref sd]/\ScAt H sd c/\ScOk b c/\qi H Pt /\
 ∀p H' g,IceAt C H' p g->IceFr H p g->Fr3 (λa=>a=Pt) c.D H H'->qi H' Pt->g.rs=c.rs->g.rows=c.ts->g.slopes=c.ws.map (je c.rs)->g.kvs=c.sk.map kvA->g.lds.length=c.lds.length->(∀(l:Nat) x,g.lds[l]? = some x->∃y,c.lds[l]? = some y/\x.2=y.2.map kvI)->(∀x∈g.lds,x.1≠g.ye)->(g.lds.map (·.1)).Nodup->Q (.ref p) H'
theorem qY:FnScope ["_law_scene_here","_law_ice","_law_year_here","_law_lane","_law_leaps"] ["_law_scene_here"] (j8 yu):=by walk_at "s"
theorem YK {f C CV CR CN CY CW CS Pt:Addr}{fd:FuncData}(nb:Nb2 mg) (cl_Ice:Cls K C) (c_Ice:MakX P w K mg base 8 C "Ice" ["self","reaches","rows"] (ZL C CV CR Pt)) (c_Ice__tell:CalMX P w K mg base 2 C "tell" ["self","year","row"] (ZE C CY CW)) (c_Ice__surge:CalMX P w K mg base 2 C "surge" ["self","lane","year","many"] (QX C CN CY CS)) (F:Fun K "_law_made" "_law_made" yu f fd):FnOk P w K mg base CX0 10 f fd ["_law_scene_here"] (Z9 C Pt):=by
 refine F.ok qY (λvs H Q E h=>?_) (λcdv A outer s H vs Q E hr h=>?_)
 ·obtain ⟨sd,b,c,rfl,_⟩:=h
  rfl
 ·obtain ⟨sd,b,c,rfl,S,O,T,k⟩:=h
  refine ⟨_,(j6 (jy 1 qY.nd (Yr c_Ice (hr.mono ⋯) gh rfl (j0 (jP (qo K) rfl nb.b_list c6 (j0 (jB (jG hr) (pv 0) jt (λ_ _=>rfl)) j2)) (j0 (jP (qo K) rfl nb.b_list c6 (j0 (jB (jG hr) (pv 0) jt (λ_ _=>rfl)) j2)) j2))))
   (j6 (xF bA rfl (QM (jB (jG hr) (pv 0) jt (λ_ _=>rfl))) (jb (i:=2) qY.nd rfl (aU rfl)) (j9 (jT (zQ (pv 1) cl_Ice c_Ice__tell (hr.mono ⋯) gh (j0 (pv 2) (j0 (jB (jG hr) (jB (jG hr) (pv 0) jt (λ_ _=>rfl)) (pv 2) (λ_ _=>rfl)) j2))))))
   (j6 (xF bA rfl (kO K rfl nb.b_enumerate (j0 (jB (jG hr) (pv 0) jt (λ_ _=>rfl)) j2)) (qS (n:=2) K rfl (js (jb (i:=3) qY.nd rfl (aU rfl)) (js (jb (i:=4) qY.nd rfl (aU rfl)) qT))) (j9 (xF bA rfl (QM (pv 4)) (jb (i:=2) qY.nd rfl (aU rfl)) (j9 (jT (zQ (pv 1) cl_Ice c_Ice__surge (hr.mono ⋯) gh (j0 (pv 3) (j0 (pv 2) (j0 (jB (jG hr) (pv 4) (pv 2) (λ_ _=>rfl)) j2)))))))))
   (j9 (jn (pv 1)))))),?_⟩
  left
  refine ⟨sd,.ref c.p,rfl,by rw [<- Qh c.p c.q c.sg c.gl c.ll];exact qL.k (k:=.inr "reaches") S.sd,?_⟩
  refine ⟨_,_,rfl,.inl (SqL.of S.p),λl1 H1 hl1 hl11 s1=>?_⟩
  have S1:=S.same s1
  left
  refine ⟨sd,.ref c.q,rfl,by rw [<- kE c.p c.q c.sg c.gl c.ll];exact qL.k (k:=.inr "rows") S1.sd,?_⟩
  refine ⟨_,_,rfl,.inl (SqL.of S1.q),λl2 H2 hl2 hl22 s2=>?_⟩
  have S2:=S1.same s2
  have s12:=s1.trans s2
  left
  intro p dx hp hd hdp
  have s3:jm H2 (upd (upd H2 dx (.own p)) p (.ins C dx [])):=λc u h=>by rw [j5 (j1 h hp),j5 (j1 h hd)];exact h
  have S3:=S2.same s3
  have egr:gr c.ts=true:=by
   have:=O.t1
   have:=O.t2
   unfold gr
   rw [decide_eq_true (),O.tg]
   rfl
  have eg:=O.gr.good O.l1 O.l8
  refine ⟨p,dx,l1,l2,c.xs,c.ys,c.rs,c.ts,rfl,j4,s3 _ _ (s2 _ _ hl11),S3.rv,s3 _ _ hl22,S3.r3,λr hr=>aF (Qx O.gr r hr) ⋯,aF O.l8 ⋯,aF O.t2 ⋯,(T.same s12).same s3,λH4 g _ _ I e1 e2 e3 e4 T4=>?_,(λH' z _ _=>by rw [eg] at z;cases z),(λH' _ z _ _=>by rw [egr] at z;cases z)⟩
  have I:=I.made hp hd
  obtain ⟨ws,hR,esl⟩:=I.sl2
  rw [e1] at hR esl
  obtain rfl:=hR.unique O.ro
  have F4:IceFr H p g:=⟨s12.free hp,s12.free I.va,s12.free I.cy,s12.free I.sl,s12.free I.ye,s12.free I.le,λa z=>s12.free (I.zs a z),λx hx=>s12.free (I.lds x hx).1⟩
  have M4:MdI C Pt p c H H4 g:=⟨I.at_,F4,λa o h n=>.inl (I.keep a o (s12 _ _ h) (j1 h F4.p) n),T4⟩
  have ll4:g.lds.length=c.lds.length:=by rw [I.ll,esl,af,O.ldl]
  have nd4:=I.nd
  have ny4:=I.ny
  have kv4:=I.kvs
  have ld4:∀x∈g.lds,x.2=[]:=λx hx=>(I.lds x hx).2
  clear I S3 s3 S2 hl22 hl11 S1 T4
  refine ⟨rfl,?_⟩
  have S4:=S.fr T M4.R
  left
  refine ⟨sd,.ref c.sg,rfl,by rw [<- zv c.p c.q c.sg c.gl c.ll];exact qL.k (k:=.inr "single") S4.sd,?_⟩
  have hsgD:c.D c.sg:=.inl rfl
  refine wI (kvs:=c.sk.map kvA) S4.sg (λo i σ H5=>∃x:Option V,σ=[some (.ref sd),some (.ref p),x,none,none]/\H5 c.sg=some (.frz o (.dK (c.sk.map kvA)))/\MdI C Pt p c H H5 { g with kvs:=(c.sk.take i).map kvA }) ?_ ?_ ?_ ?_
  ·intro o H5 f5
   refine ⟨none,rfl,f5.1,?_⟩
   have:=M4.frz S hsgD f5
   have e:g={ g with kvs:=(c.sk.take 0).map kvA }:=by
    show g={ g with kvs:=[] }
    rw [<- kv4]
   rw [<- e]
   exact this
  ·rintro o i σ H5 hi ⟨x,rfl,h5,M5⟩
   exact h5
  ·rintro o i u σ H5 hq ⟨x,rfl,h5,M5⟩
   obtain ⟨z,hz,rfl⟩:=Vr hq
   have hm:=av hz
   have hi:i<c.sk.length:=(List.getElem?_eq_some_iff.mp hz).1
   have h10:=O.k3
   have S5:=S.fr T M5.R
   obtain ⟨r,hr3,hgr⟩:=S5.sk z hm
   obtain ⟨y0,y1⟩:=O.k2 z hm
   show wH 2 (V.int z.1) _ _ _
   left
   refine ⟨p,g.dx,_,rfl,M5.I.ob,qB ∅,?_⟩
   left
   refine ⟨sd,.ref c.sg,rfl,by rw [<- zv c.p c.q c.sg c.gl c.ll];exact qL.k (k:=.inr "single") S5.sd,?_⟩
   left
   refine ⟨c.sg,.ref z.2,rfl,(by rw [<- vJ O.k1 hm];exact .inl ⟨_,.inl z.1,.inr ⟨o,h5⟩,rfl,rfl⟩),?_⟩
   refine ⟨p,z.2,_,z.1,r,rfl,M5.I,ny4,hr3,(by rw [af,aM];omega),λH6 _ _ _ X6 I6=>?_,λhb=>absurd hb (),λ_ _ hb=>by rw [hgr] at hb;cases hb⟩
   have e:qc ((c.sk.take i).map kvA) (.inl z.1) (.ref z.2)=(c.sk.take (i+1)).map kvA:=JF (f:=V.ref) O.k1 hz
   obtain ⟨_,hsg0⟩:=S.inD hsgD
   refine ⟨_,rfl,X6 _ _ h5 (j1 hsg0 F4.ye),?_⟩
   rw [<- e]
   exact ⟨I6,⟨F4.p,F4.va,F4.cy,F4.sl,F4.ye,F4.le,F4.zs,F4.lds⟩,M5.R.ext X6 F4.ye,Jk M5.T M5.I.ye X6⟩
  ·rintro o σ H5 ⟨x,rfl,h5,M5⟩
   rw [af,bb] at M5
   have S5:=S.fr T M5.R
   left
   refine ⟨sd,.ref c.ll,rfl,by rw [<- wk c.p c.q c.sg c.gl c.ll];exact qL.k (k:=.inr "leaps") S5.sd,?_⟩
   left
   refine ⟨⟨_,SqL.of S5.ll⟩,?_⟩
   refine ZN (K:=K) (a:=c.ll) (xs:=c.lds.map λx=>V.ref x.1) (λi σ H6=>∃(x y z:Option V) (lds:List (Addr×List (Key×V))),σ=[some (.ref sd),some (.ref p),x,y,z]/\MdI C Pt p c H H6 { g with kvs:=c.sk.map kvA,lds:=lds }/\LdN g.lds c.lds i 0 lds) ?_ ?_ ?_ ?_
   ·refine ⟨x,none,none,g.lds,rfl,M5,rfl,λj x hx=>?_⟩
    have hj:=(List.getElem?_eq_some_iff.mp hx).1
    obtain ⟨y,hy⟩:∃y,c.lds[j]? = some y:=⟨_,aa ()⟩
    refine ⟨y,hy,?_⟩
    rw [ld4 x (av hx),if_neg (lN _)]
    split <;> rfl
   ·rintro i σ H6 hi ⟨x,y,z,lds,rfl,M6,L6⟩
    exact SqL.of (S.fr T M6.R).ll
   ·rintro i v σ H6 t hv ⟨x,y,z,lds,rfl,M6,L6⟩ ht
    rw [au] at hv
    obtain ⟨⟨a,ns⟩,hy,ev⟩:=Option.map_eq_some_iff.mp hv
    subst ev
    have M7:=M6.same (jm.new (o:=.tup [.int i,.ref a]) ht)
    left
    refine ⟨t,_,rfl,SqT.of j4,rfl,?_⟩
    refine ⟨_,_,rfl,_,_,rfl,rfl,?_⟩
    left
    clear M6
    generalize upd H6 t (.tup [.int i,.ref a])=H7 at *
    have S7:=S.fr T M7.R
    have hm:=av hy
    have haD:c.D a:=.inr ⟨_,hm,rfl⟩
    obtain ⟨_,ha0⟩:=S.inD haD
    refine wI (kvs:=ns.map kvI) (S7.ld _ hm) (λo n σ H8=>∃(x:Option V) (lds:List (Addr×List (Key×V))),σ=[some (.ref sd),some (.ref p),x,some (.int i),some (.ref a)]/\H8 a=some (.frz o (.dK (ns.map kvI)))/\MdI C Pt p c H H8 { g with kvs:=c.sk.map kvA,lds:=lds }/\LdN g.lds c.lds i n lds) ?_ ?_ ?_ ?_
    ·intro o H8 f8
     exact ⟨x,lds,rfl,f8.1,M7.frz S haD f8,L6⟩
    ·rintro o n σ H8 hn ⟨x,lds,rfl,h8,M8,L8⟩
     exact h8
    ·clear L6 M7 S7
     rintro o n u σ H8 hq ⟨x,lds,rfl,h8,M8,L8⟩
     obtain ⟨z,hz,rfl⟩:=VA hq
     have hzm:=av hz
     obtain ⟨y0,y1,m0,m1⟩:=O.m2 _ hm z hzm
     have hl8:=L8.len
     have hi8:i<lds.length:=by
      have:=(List.getElem?_eq_some_iff.mp hy).1
      omega
     have hsl:g.slopes.length=lds.length:=by rw [esl,af,hl8,ll4,O.ldl]
     show wH 2 (V.int z.1) _ _ _
     left
     refine ⟨p,g.dx,_,rfl,M8.I.ob,qB ∅,?_⟩
     left
     refine ⟨a,.int z.2,rfl,(by rw [<- kl (O.m1 _ hm) hzm,<- vH ns z.1 (bp hzm)];exact .inl ⟨_,.inl z.1,.inr ⟨o,h8⟩,rfl,rfl⟩),?_⟩
     refine ⟨p,_,(i:Int),z.1,z.2,rfl,M8.I,hsl.symm,(λx hx=>by obtain ⟨y,hy,e⟩:=L8.mem hx;rw [<- e];exact ny4 y hy),(by show (lds.map (·.1)).Nodup;rw [L8.fst];exact nd4),(λx hx=>?_),λH9 a9 kvs9 _ _ _ _ _ _ ha9 X9 I9=>?_,(λhb=>absurd hb (by show ¬((i:Int)<0\/(g.slopes.length:Int)<=i);omega)),(λ_ _ hb=>absurd hb ()),λ_ _ _ _ hb=>absurd hb ()⟩
     ·obtain ⟨j,hj,ex⟩:=List.mem_iff_getElem.mp hx
      obtain ⟨y,hy,e⟩:=L8.at_ j x (by rw [aa hj,ex])
      have h10:=O.m3 y (av hy)
      rw [e,af]
      split
      ·omega
      ·split
       ·rw [aM];omega
       ·exact aJ _
     ·have ha9:lds[i]? = some (a9,kvs9):=ha9
      have L9:=L8.put hy (O.m1 _ hm) hz ha9
      have a90:H a9=none:=M8.F.lds _ (av ha9)
      refine ⟨_,_,rfl,X9 _ _ h8 (j1 ha0 a90),⟨I9,⟨F4.p,F4.va,F4.cy,F4.sl,F4.ye,F4.le,F4.zs,λx hx=>?_⟩,M8.R.ext X9 a90,Jk M8.T (M8.I.lds _ (av ha9)) X9⟩,L9⟩
      obtain ⟨y,hy,e⟩:=L9.mem hx
      rw [<- e]
      exact F4.lds y hy
    ·rintro o σ H8 ⟨x,lds,rfl,h8,M8,L8⟩
     exact ⟨x,_,_,lds,rfl,M8,L8.next hy (by rw [af];exact ao _)⟩
   ·rintro σ H6 ⟨x,y,z,lds,rfl,M6,L6⟩
    left
    refine k p H6 _ M6.I M6.F M6.R M6.T e1 e2 esl rfl (L6.len.trans ll4) (λl x hx=>?_) (λx hx=>?_) (by show (lds.map (·.1)).Nodup;rw [L6.fst];exact nd4)
    ·obtain ⟨y,hy,e⟩:=L6.at_ l x hx
     refine ⟨y,hy,?_⟩
     rw [e,if_pos (by rw [af];exact (List.getElem?_eq_some_iff.mp hy).1)]
    ·obtain ⟨y,hy,e⟩:=L6.mem hx
     rw [<- e]
     exact ny4 y hy
theorem uf {rs:List Rch}(h:xY rs=true):1<=rs.length/\rs.length<=8/\vQ rs=true/\∀ws,jO rs ws->∀w∈ws,(je rs w).length<=30:=by
 unfold xY at h
 rw [bh,bh,bh] at h
 obtain ⟨h1,h2,_,h4⟩:=h
 have h1:=of_decide_eq_true h1
 refine ⟨(),(),h2,λws hR w hw=>?_⟩
 obtain ⟨x,hx,e⟩:=hR.mem hw
 have:=of_decide_eq_true (List.all_eq_true.mp h4 x hx)
 have g:=uY rs w
 rw [<- e] at this
 omega
theorem wd {rs:List Rch}(G:Grown rs) {ws:List (List Int)}(R:jO rs ws) {w:List Int}(hw:w∈ws):1<=(je rs w).length:=by
 obtain ⟨x,hx,e⟩:=R.mem hw
 have hl:=x5 hx
 have o:=kQ G.ok (aa hl)
 unfold okR at o
 rw [bh,bh] at o
 have o:=of_decide_eq_true o.1.2
 have eh:zh rs ((x:Int)).toNat=(rs[x]'hl).2:=by
  unfold zh
  rw [bg,ak,aa hl]
  rfl
 rw [e,za (jS G.ok) hl]
 unfold je
 rw [aN,iK,ax,eh]
 omega
theorem kG {L b Pt:Addr}{Ha Hb:Hp}(B:jM L Ha b) (e:Ext b Ha Hb) (T:qi Ha Pt):qi Hb Pt:=by
 obtain ⟨ns,a,r,c,d,h1,_⟩:=B
 exact T.ext h1 e
structure Lw (C L b sd p:Addr) (c:ScN) (g:IceG) (H0 H:Hp):Prop where
 B:jM L H b
 S:ScAt H sd c
 I:IceAt C H p g
 O:ScOk b c
 F:IceFr H0 p g
 B0:jM L H0 b
 S0:ScAt H0 sd c
theorem Lw.same {C L b sd p:Addr}{c:ScN}{g:IceG}{H0 H H':Hp}(W:Lw C L b sd p c g H0 H) (s:jm H H'):Lw C L b sd p c g H0 H':=⟨W.B.same s,W.S.same s,W.I.same s,W.O,W.F,W.B0,W.S0⟩
theorem Lw.take {C L b sd p:Addr}{c:ScN}{g:IceG}{H0 H H':Hp}(W:Lw C L b sd p c g H0 H) (B:jM L H' b) (X:Ext b H H'):Lw C L b sd p c g H0 H' :=
 ⟨B,W.S.ext W.O W.B X,W.I.stay W.F (λa o h n=>X a o h (W.B0.ne n)) (jX W.B X),W.O,W.F,W.B0,W.S0⟩
theorem Lw.start {C L b sd p Pt:Addr}{c:ScN}{g:IceG}{H2 H3:Hp}(S2:ScAt H2 sd c) (O:ScOk b c) (B2:jM L H2 b) (T2:qi H2 Pt) (I3:IceAt C H3 p g) (F3:IceFr H2 p g) (R3:Fr3 (λa=>a=Pt) c.D H2 H3):Lw C L b sd p c g H2 H3:=by
 refine ⟨?_,S2.fr T2 R3,I3,O,F3,B2,S2⟩
 obtain ⟨ps,hP⟩:=T2.ne
 obtain ⟨ns,a,r,c,d,h1,h2,h3,h4⟩:=B2
 exact ⟨ns,a,r,c,d,R3.at h1 (jh h1 hP (by walk_at "z")) (by walk_at "w"),h2,R3.at h3 (jh h3 hP (by walk_at "z")) (by walk_at "w"),h4⟩
structure Lk (c:ScN) (g:IceG):Prop where
 rs:g.rs=c.rs
 rows:g.rows=c.ts
 sl:g.slopes=c.ws.map (je c.rs)
 kv:g.kvs=c.sk.map kvA
 ll:g.lds.length=c.lds.length
 ld:∀(l:Nat) x,g.lds[l]? = some x->∃y,c.lds[l]? = some y/\x.2=y.2.map kvI
 ny:∀x∈g.lds,x.1≠g.ye
 nd:(g.lds.map (·.1)).Nodup
structure LaneF (c:ScN) (g:IceG) (ln:Int) (wy:List Int) (da:Addr) (dn:List (Int×Int)):Prop where
 way:c.ws[ln.toNat]? = some wy
 sl:g.slopes.getD ln.toNat []=je c.rs wy
 g1:1<=(je c.rs wy).length
 g30:(je c.rs wy).length<=30
 cd:c.lds[ln.toNat]? = some (da,dn)
 D:c.D da
 nd:(dn.map (·.1)).Nodup
 b:∀q∈dn,0<=q.1/\q.1<=99/\1<=q.2/\q.2<=9
 l10:dn.length<=10
 at_:YN g ln dn
 l0:0<=ln
 l1:ln<(g.slopes.length:Int)
theorem Lk.lane {b:Addr}{c:ScN}{g:IceG}(k:Lk c g) (O:ScOk b c) {ln:Int}(h0:0<=ln) (h1:ln<(c.ws.length:Int)):∃wy da dn,LaneF c g ln wy da dn:=by
 have hi:ln.toNat<c.ws.length:=()
 have hwy:=aa hi
 have hgs:g.slopes[ln.toNat]? = some (je c.rs (c.ws[ln.toNat]'hi)):=by rw [k.sl,au,hwy];rfl
 have hl:g.slopes.length=c.ws.length:=by rw [k.sl,af]
 obtain ⟨⟨da,dn⟩,hda⟩:∃z,c.lds[ln.toNat]? = some z:=⟨_,aa (by rw [O.ldl];omega)⟩
 have hdm:=av hda
 obtain ⟨⟨da2,dk⟩,hda2⟩:∃z,g.lds[ln.toNat]? = some z:=⟨_,aa (by rw [k.ll,O.ldl];omega)⟩
 obtain ⟨_,q1,q2⟩:=k.ld _ _ hda2
 rw [hda] at q1
 cases q1
 obtain rfl:dk=dn.map kvI:=q2
 have hm:=bz hi
 have h10:dn.length<=10:=O.m3 _ hdm
 exact ⟨_,da,dn,hwy,by rw [ak,hgs];rfl,wd O.gr O.ro hm,(uf (O.gr.good O.l1 O.l8)).2.2.2 c.ws O.ro _ hm,hda,.inr ⟨_,hdm,rfl⟩,O.m1 _ hdm,O.m2 _ hdm,h10,⟨h0,(),⟨da2,hda2⟩,O.m1 _ hdm,(),λq hq=>by have:=O.m2 _ hdm q hq;omega⟩,h0,()⟩
def Z7:Sp:=λvs H Q _=>∃(L b sd:Addr) (c:ScN),vs=[.ref b,.ref sd]/\jM L H b/\ScAt H sd c/\ScOk b c/\1<=c.ws.length/\c.ws.length<=6/\(∀w∈c.ws,1<=(je c.rs w).length/\(je c.rs w).length<=30) /\
 ∀(ln n:Int) (w:List Int) (t:Addr) (H':Hp),0<=ln->ln<(c.ws.length:Int)->c.ws[ln.toNat]? = some w->0<=n->n<((je c.rs w).length:Int)->jM L H' b->Ext b H H'->H t=none->H' t=some (.tup [.int ln,.int n])->Q (.ref t) H'
theorem ue:FnScope ["_law_box_here","_law_scene_here","_law_lane"] ["_law_box_here","_law_scene_here"] (j8 yH):=by walk_at "s"
theorem Yi {f:Addr}{fd:FuncData}(nb:Nb2 mg) (c_law_take:Cal P w K mg base 2 "_law_take" ["_law_box_here","_law_size"] xk) (F:Fun K "_law_spot" "_law_spot" yH f fd):FnOk P w K mg base CX0 3 f fd ["_law_box_here","_law_scene_here"] Z7:=by
 refine F.ok ue (λvs H Q E h=>?_) (λcdv A outer s H vs Q E hr h=>?_)
 ·obtain ⟨L,b,sd,c,rfl,_⟩:=h
  rfl
 ·obtain ⟨L,b,sd,c,rfl,B,S,O,hw1,hw6,hg,k⟩:=h
  have hzl:c.zs.length=c.ws.length:=(b8 S.gi).trans (af _)
  refine ⟨_,(j6 (jy 2 ue.nd (jd c_law_take (hr.mono ⋯) rfl (j0 (pv 0) (j0 (jg (jf K) rfl nb.b_len aS (j0 (jB (jG hr) (pv 1) jt (λ_ _=>rfl)) j2)) j2))))
   (j9 (jn (zN (j0 (pv 2) (j0 (jd c_law_take (hr.mono ⋯) rfl (j0 (pv 0) (j0 (jg (jf K) rfl nb.b_len aS (j0 (jq (ja K) (jB (jG hr) (pv 1) jt (λ_ _=>rfl)) (pv 2) (λ_ _=>rfl)) j2)) j2))) j2)))))),?_⟩
  left
  refine ⟨sd,.ref c.gl,rfl,by rw [<- yw c.p c.q c.sg c.gl c.ll];exact qL.k (k:=.inr "grounds") S.sd,?_⟩
  left
  refine ⟨c.gl,_,rfl,.inl (SqL.of S.gl),?_⟩
  left
  refine ⟨L,b,_,rfl,B,⟨(),()⟩,λln H1 ln0 ln1 B1 X1=>?_⟩
  have S1:=S.ext O B X1
  have hi:ln.toNat<c.zs.length:=()
  obtain ⟨gw,hgw,ga,ega,hga⟩:=Paired.get S1.gi (aa hi)
  rw [au] at hgw
  obtain ⟨wy,hwy,rfl⟩:=Option.map_eq_some_iff.mp hgw
  have hgb:=hg wy (av hwy)
  left
  refine ⟨sd,.ref c.gl,rfl,by rw [<- yw c.p c.q c.sg c.gl c.ll];exact qL.k (k:=.inr "grounds") S1.sd,?_⟩
  left
  refine ⟨_,_,_,_,rfl,rfl,SqL.of S1.gl,xl ln0 (v:=V.ref ga) (by rw [aa hi,ega]),?_⟩
  left
  refine ⟨ga,_,rfl,.inl (SqL.of hga),?_⟩
  rw [af]
  left
  refine ⟨L,b,_,rfl,B1,⟨(),()⟩,λn H2 n0 n1 B2 X2=>?_⟩
  left
  refine ⟨by show 2<=sizeLine;decide,λt H3 ht ht3 s3=>?_⟩
  have tb:t≠b:=B2.ne ht
  exact k ln n wy t H3 ln0 () hwy n0 n1 (B2.same s3) ((X1.trans X2).trans (Ext.of_same s3)) (X1.free (X2.free ht tb) tb) ht3
def chg (t:T3) (h:Int):Int:=if t.1<=h then t.2.1 else-t.2.2
def JD:Sp:=λvs H Q _=>∃(p:Addr) (t:T3) (h:Int),vs=[.ref p,.int h]/\H p=some (zo t)/\Q (.int (chg t h)) H
theorem yd:FnScope ["row","height","line","snow","sun"] ["row","height"] (j8 uE):=by walk_at "s"
theorem Xj {f:Addr}{fd:FuncData}(F:Fun K "change" "change" uE f fd):FnOk P w K mg base CX0 1 f fd ["row","height"] JD:=by
 refine F.ok yd (λvs H Q E h=>?_) (λcdv A outer s H vs Q E hr h=>?_)
 ·obtain ⟨p,t,h,rfl,_⟩:=h
  rfl
 ·obtain ⟨p,t,h,rfl,hp,k⟩:=h
  unfold chg at k
  refine ⟨_,(j6 (zr (pv 0) (qS (n:=3) K rfl (js (jb (i:=2) yd.nd rfl (aU rfl)) (js (jb (i:=3) yd.nd rfl (aU rfl)) (js (jb (i:=4) yd.nd rfl (aU rfl)) qT)))))
   (j6 (qt (jK ZZ (pv 1) (pv 2) (qm _)) (j9 (jn (pv 3))) jI)
   (j9 (jn (vg zF (pv 4)))))),?_⟩
  left
  refine ⟨p,_,rfl,SqT.of hp,rfl,?_⟩
  refine ⟨_,_,rfl,_,_,rfl,_,_,rfl,rfl,?_⟩
  left
  refine xg (λh1=>?_) (λh1=>?_)
  ·left
   rw [if_pos h1] at k
   exact k
  ·left
   rw [if_neg h1] at k
   exact k
def qN (H:Hp) (sk:List (Int×Addr)) (wr:List (Int×T3)):Prop:=cO (λ(z:Int×Addr) (q:Int×T3)=>z.1=q.1/\H z.2=some (zo q.2)) sk wr
theorem qN.keep {H H':Hp}{sk:List (Int×Addr)}{wr:List (Int×T3)}(h:qN H sk wr) (t:ji H H'):qN H' sk wr:=Paired.mapP h λ_ _ ⟨e,q⟩=>⟨e,t _ _ q⟩
theorem qN.of {H:Hp}:∀{sk:List (Int×Addr)},(∀z∈sk,∃t,H z.2=some (zo t)/\good t=true)->∃wr,qN H sk wr
 | [],_=>⟨[],.nil⟩
 | z::r,h=>by
  obtain ⟨t,ht,_⟩:=h z (aG ..)
  obtain ⟨wr,hw⟩:=qN.of (sk:=r) λu hu=>h u (aD _ hu)
  exact ⟨(z.1,t)::wr,.cons ⟨rfl,ht⟩ hw⟩
def qK (wr:List (Int×T3)) (ts:List T3) (y:Int):T3 :=
 match wr.find? λq=>decide (q.1=y) with
 | some q=>q.2
 | none=>ts.getD (y % (ts.length:Int)).toNat (0,0,0)
theorem Jy {H:Hp}:∀{sk:List (Int×Addr)}{wr:List (Int×T3)},qN H sk wr->∀y:Int,
  (∃a q,qr (sk.map kvA) (.inl y)=some (.ref a)/\(wr.find? λq=>decide (q.1=y))=some q/\H a=some (zo q.2))\/(qr (sk.map kvA) (.inl y)=none/\(wr.find? λq=>decide (q.1=y))=none)
 | _,_,.nil,y=>.inr ⟨rfl,rfl⟩
 | z::sk,q::wr,.cons ⟨e,h⟩ r,y=>by
  rw [aN]
  by_cases c:z.1=y
  ·subst c
   exact .inl ⟨z.2,q,xc,by rw [cB (by rw [decide_eq_true e.symm])],h⟩
  ·have e1:qr (kvA z::sk.map kvA) (.inl y)=qr (sk.map kvA) (.inl y):=jp λw=>c (f7 w)
   have e2:((q::wr).find? λq=>decide (q.1=y))=wr.find? λq=>decide (q.1=y):=c7 (by rw [decide_eq_false (by rw [<- e];exact c)];exact aq)
   rw [e1,e2]
   exact Jy r y
theorem U6 {H:Hp}{ys:List V}{ts:List T3}(r:qg H ys ts) (h1:1<=ts.length) (y:Int):∃a,atI ys (y % (ys.length:Int))=some (.ref a)/\H a=some (zo (ts.getD (y % (ts.length:Int)).toNat (0,0,0))):=by
 have hl:ys.length=ts.length:=r.length
 have n0:(0:Int)<ts.length:=()
 have m0:=di y (show (ts.length:Int)≠0 by omega)
 have m1:=cG y n0
 have hi:(y % (ts.length:Int)).toNat<ys.length:=()
 obtain ⟨t,ht,a,ea,ha⟩:=r.get (aa hi)
 refine ⟨a,?_,?_⟩
 ·rw [hl]
  exact xl m0 (by rw [aa hi,ea])
 ·rw [ak,ht]
  exact ha
def V4 (C:Addr):Sp:=λvs H Q _=>∃(p:Addr) (g:IceG) (y:Int) (sk:List (Int×Addr)) (wr:List (Int×T3)),vs=[.ref p,.int y]/\IceAt C H p g/\g.kvs=sk.map kvA/\qN H sk wr/\1<=g.rows.length/\g.rows.length<=1000/\∀t,H t=some (zo (qK wr g.rows y))->Q (.ref t) H
theorem Ju:FnScope ["self","year"] ["self","year"] (j8 yD):=by walk_at "s"
theorem gX {f C:Addr}{fd:FuncData}(nb:Nb2 mg) (T:IceC K C) (F:Fun K "sky" "Ice.sky" yD f fd):FnOk P w K mg base CX0 1 f fd ["self","year"] (V4 C):=by
 refine F.ok Ju (λvs H Q E h=>?_) (λcdv A outer s H vs Q E hr h=>?_)
 ·obtain ⟨p,g,y,sk,wr,rfl,_⟩:=h
  rfl
 ·obtain ⟨p,g,y,sk,wr,rfl,I,ek,hw,h1,h2,k⟩:=h
  have hye:H g.ye=some (.dK (sk.map kvA)):=by rw [<- ek];exact I.ye
  obtain ⟨ra,hra,hrow⟩:=U6 I.rows h1 y
  refine ⟨_,(j9 (jn (JI (jG hr) (qV K (pv 0)) (pv 1) (jq (ja K) (qV K (pv 0)) (jo xp (pv 1) (jg (jf K) rfl nb.b_len aS (j0 (qV K (pv 0)) j2))) (λ_ _=>rfl)) ⟨rfl,rfl,rfl,rfl⟩))),?_⟩
  left
  refine ⟨p,C,g.dx,_,_,rfl,I.ob,T.cl,T.nY,uU _ _ _ _ _,?_⟩
  left
  refine ⟨.inl ⟨_,.inl hye⟩,?_⟩
  left
  refine ⟨p,C,g.dx,_,_,rfl,I.ob,T.cl,T.nC,uV _ _ _ _ _,?_⟩
  left
  refine ⟨p,C,g.dx,_,_,rfl,I.ob,T.cl,T.nC,uV _ _ _ _ _,?_⟩
  left
  refine ⟨g.cy,_,rfl,.inl (SqL.of I.cy),?_⟩
  have hl:g.ys.length=g.rows.length:=I.rows.length
  left
  refine ⟨_,_,_,_,rfl,rfl,SqL.of I.cy,hra,?_⟩
  rcases Jy hw y with ⟨a,q,e1,e2,h⟩ | ⟨e1,e2⟩
  ·refine ⟨some (.ref a),by rw [<- e1];exact qL.k (k:=.inl y) hye,?_⟩
   exact k a (by unfold qK;rw [e2];exact h)
  ·refine ⟨none,by rw [<- e1];exact qL.k (k:=.inl y) hye,?_⟩
   exact k ra (by unfold qK;rw [e2];exact hrow)
theorem xS:∀{l:List Int},l.Pairwise (· <= ·)->l.Nodup->l.Pairwise (· < ·)
 | [],_,_=>.nil
 | x::r,p,n=>by
  rw [mS] at p ⊢
  obtain ⟨n1,n2⟩:=List.nodup_cons.mp n
  refine ⟨λy hy=>?_,xS p.2 n2⟩
  have:=p.1 y hy
  have:x≠y:=λe=>n1 (e ▸ hy)
  omega
theorem uc:∀{xs ys:List (Int×Int)},xs.Perm ys->(xs.map (·.1)).Pairwise (· < ·)->(ys.map (·.1)).Pairwise (· < ·)->xs=ys
 | [],ys,p,_,_=>p.nil_eq
 | x::r,[],p,_,_=>absurd p.length_eq (by simp)
 | x::r,y::t,p,hx,hy=>by
  rw [aN,mS] at hx hy
  have e:x=y:=by
   rcases List.mem_cons.mp (p.mem_iff.mpr (aG (a:=y) (l:=t))) with e | e
   ·exact e.symm
   ·rcases List.mem_cons.mp (p.mem_iff.mp (aG (a:=x) (l:=r))) with e2 | e2
    ·exact e2
    ·have a:=hx.1 _ (bp e)
     have b:=hy.1 _ (bp e2)
     omega
  subst e
  rw [uc (mQ p) hx.2 hy.2]
theorem wt {ns ms os:List (Int×Int)}(nd:(ns.map (·.1)).Nodup) (p:ms.Perm ns) (s:(ms.map (·.1)).Pairwise (· <= ·)) (q:os.Perm ns) (t:(os.map (·.1)).Pairwise (· <= ·)):os=ms :=
 uc (q.trans p.symm) (xS t ((q.map (·.1)).nodup_iff.mpr nd)) (xS s ((p.map (·.1)).nodup_iff.mpr nd))
theorem wJ:∀(ns:List (Int×Int)) (y:Int),(qr (ns.map kvI) (.inl y)).getD (.int 0) = .int (qf ns y)
 | [],y=>rfl
 | q::r,y=>by
  rw [aN]
  unfold qf
  by_cases e:q.1=y
  ·subst e
   rw [if_pos rfl,show qr (kvI q::r.map kvI) (.inl q.1)=some (.int q.2) from xc]
   rfl
  ·rw [if_neg e,show qr (kvI q::r.map kvI) (.inl y)=qr (r.map kvI) (.inl y) from jp λw=>e (f7 w)]
   exact wJ r y
theorem wn (ns:List (Int×Int)):∃ms:List (Int×Int),ms.Perm ns/\(ms.map (·.1)).Pairwise (· <= ·):=by
 refine ⟨ns.mergeSort (λa b=>decide (a.1<=b.1)),List.mergeSort_perm _ _,?_⟩
 rw [nJ]
 exact (List.pairwise_mergeSort (λa b c h1 h2=>by simp at *;omega) (λa b=>by simp;omega) ns).imp λh=>by simpa using h
theorem qN.good {H:Hp}:∀{sk:List (Int×Addr)}{wr:List (Int×T3)},qN H sk wr->(∀z∈sk,∃t,H z.2=some (zo t)/\good t=true)->∀q∈wr,good q.2=true
 | _,_,.nil,_,q,hq=>by cases hq
 | z::r,x::t,.cons ⟨_,h⟩ tl,g,q,hq=>by
  rcases List.mem_cons.mp hq with e | e
  ·subst e
   obtain ⟨u,hu,gu⟩:=g z (aG ..)
   rw [h] at hu
   have:zo q.2=zo u:=aQ hu
   have e1:q.2.1=u.1:=by injection this with this;injection this with a b;exact V.int.inj a
   have e2:q.2.2.1=u.2.1:=by injection this with this;injection this with a b;injection b with b c;exact V.int.inj b
   have e3:q.2.2.2=u.2.2:=by injection this with this;injection this with a b;injection b with b c;injection c with c d;exact V.int.inj c
   rw [show q.2=u from Prod.ext e1 (Prod.ext e2 e3)]
   exact gu
  ·exact qN.good tl (λz hz=>g z (aD _ hz)) q e
theorem Jp {wr:List (Int×T3)}{ts:List T3}(h1:∀q∈wr,good q.2=true) (h2:ts.all good=true) (h3:1<=ts.length) (y:Int):good (qK wr ts y)=true:=by
 unfold qK
 cases e:wr.find? λq=>decide (q.1=y) with
 | some q=>exact h1 q (List.mem_of_find?_eq_some e)
 | none =>
  have m0:=di y (show (ts.length:Int)≠0 by omega)
  have m1:=cG y (show (0:Int)<ts.length by omega)
  have hi:(y % (ts.length:Int)).toNat<ts.length:=()
  show good (ts.getD (y % (ts.length:Int)).toNat (0,0,0))=true
  rw [ak,aa hi]
  exact List.all_eq_true.mp h2 _ (bz hi)
theorem ZY {t:T3}(g:good t=true) (h:Int):chg t h<=9:=by
 unfold good at g
 have:=of_decide_eq_true g
 unfold chg
 split <;> omega
abbrev QC:=Int×Int×Int×List Int
def zn (t:T3) (d gd:List Int):List Int:=bX (λx h=>if chg t h > -x then chg t h else -x) d gd
def jC (s:Nat) (d:List Int):List Int:=cZ s 0++d.take (d.length-s)
def gH (gd:List Int) (t:T3) (s:Nat) (d:List Int):QC :=
 (((zn t (jC s d) gd).filter λx=>decide (0<x)).sum,((zn t (jC s d) gd).filter λx=>decide (0<x)).sum-(zn t (jC s d) gd).sum,(d.drop (d.length-s)).sum,bX (· + ·) (jC s d) (zn t (jC s d) gd))
def xi (ns:List (Int×Int)) (len:Nat) (y:Int):Nat:=(min (1+qf ns y) (len:Int)).toNat
def xG (ns:List (Int×Int)) (gd:List Int) (wr:List (Int×T3)) (ts:List T3) (fst:Int):Nat->List Int
 | 0=>cZ gd.length 0
 | i+1=>(gH gd (qK wr ts (fst+(i:Int))) (xi ns gd.length (fst+(i:Int))) (xG ns gd wr ts fst i)).2.2.2
def xa (ns:List (Int×Int)) (gd:List Int) (wr:List (Int×T3)) (ts:List T3) (fst:Int) (i:Nat):QC:=gH gd (qK wr ts (fst+(i:Int))) (xi ns gd.length (fst+(i:Int))) (xG ns gd wr ts fst i)
def zL (ns:List (Int×Int)) (gd:List Int) (wr:List (Int×T3)) (ts:List T3) (fst:Int) (n:Nat):List QC:=(aO n).map (xa ns gd wr ts fst)
theorem xT {s:Nat}{d:List Int}(h:s<=d.length):(jC s d).length=d.length:=by
 unfold jC
 rw [ax,bD,aM]
 omega
theorem gR {t:T3}{d gd:List Int}(h:d.length=gd.length):(zn t d gd).length=gd.length:=by
 unfold zn
 rw [eM]
 omega
theorem uK (ns:List (Int×Int)) (len:Nat) (y:Int):xi ns len y<=len:=by
 unfold xi
 omega
theorem qv (ns:List (Int×Int)) (gd:List Int) (wr:List (Int×T3)) (ts:List T3) (fst:Int):∀i,(xG ns gd wr ts fst i).length=gd.length
 | 0=>bD
 | i+1=>by
  have ih:=qv ns gd wr ts fst i
  have h1:=uK ns gd.length (fst+(i:Int))
  show (bX (· + ·) (jC _ _) (zn _ (jC _ _) gd)).length=_
  rw [eM,gR (by rw [xT (),ih]),xT (),ih,Nat.min_self]
theorem wZ {s:Nat}{d:List Int}{x:Int}(h:x∈jC s d):x=0\/x∈d:=by
 rcases List.mem_append.mp h with z | z
 ·exact .inl (List.mem_replicate.mp z).2
 ·exact .inr (fV z)
theorem QV {t:T3}(gt:good t=true) {B:Int}:∀{d gd:List Int},(∀x∈d,0<=x/\x<=B)->∀z∈zn t d gd,- B<=z/\z<=9\/(0<=z/\z<=9)
 | [],_,_,z,hz=>by cases hz
 | _::_,[],_,z,hz=>by cases hz
 | x::d,h::gd,hb,z,hz=>by
  have h0:=hb x (aG ..)
  have c9:=ZY gt h
  rcases List.mem_cons.mp (show z∈(if chg t h > -x then chg t h else -x)::zn t d gd from hz) with e | e
  ·rw [e]
   refine .inl ?_
   split <;> omega
  ·exact QV gt (λy hy=>hb y (aD _ hy)) z e
theorem QL {t:T3}(gt:good t=true) {B:Int}:∀{d gd:List Int},(∀x∈d,0<=x/\x<=B)->∀z∈bX (· + ·) d (zn t d gd),0<=z/\z<=B+9
 | [],_,_,z,hz=>by cases hz
 | _::_,[],_,z,hz=>by cases hz
 | x::d,h::gd,hb,z,hz=>by
  have h0:=hb x (aG ..)
  have c9:=ZY gt h
  rcases List.mem_cons.mp (show z∈(x+(if chg t h > -x then chg t h else -x))::bX (· + ·) d (zn t d gd) from hz) with e | e
  ·rw [e]
   split <;> omega
  ·exact QL gt (λy hy=>hb y (aD _ hy)) z e
theorem Q8 {ns:List (Int×Int)}{gd:List Int}{wr:List (Int×T3)}{ts:List T3}{fst:Int}(sg:∀z,good (qK wr ts z)=true):∀i,∀x∈xG ns gd wr ts fst i,0<=x/\x<=9*(i:Int)
 | 0,x,hx=>by rw [(List.mem_replicate.mp hx).2];omega
 | i+1,x,hx=>by
  have ih:=Q8 (ns:=ns) (gd:=gd) (fst:=fst) sg i
  have:=QL (sg (fst+(i:Int))) (B:=9*(i:Int)) (gd:=gd) (d:=jC (xi ns gd.length (fst+(i:Int))) (xG ns gd wr ts fst i)) (λy hy=>by
   rcases wZ hy with e | e
   ·omega
   ·exact ih y e) x hx
  omega
theorem kR (ns:List (Int×Int)) (gd:List Int) (wr:List (Int×T3)) (ts:List T3) (fst:Int) (n:Nat):zL ns gd wr ts fst (n+1)=zL ns gd wr ts fst n++[xa ns gd wr ts fst n]:=by
 unfold zL
 rw [cC,aB]
 rfl
theorem ZF {xs:List V}{s:Nat}(h:1<=s) (h2:s<=xs.length):kA xs (some (- (s:Int))) none=xs.drop (xs.length-s):=by
 unfold kA
 rw [HT.sIx_none,show HT.sIx xs.length 0 (some (- (s:Int)))=xs.length-s by show (if-(s:Int)<0 then (- (s:Int)+(xs.length:Int)).toNat else _)=_;rw [if_pos ()];omega]
 exact bI (by rw [iW];exact ao _)
theorem Zf {xs:List V}{s:Nat}(h:1<=s) (h2:s<=xs.length):kA xs none (some (- (s:Int)))=xs.take (xs.length-s):=by
 unfold kA
 rw [HT.sIx_none,show HT.sIx xs.length xs.length (some (- (s:Int)))=xs.length-s by show (if-(s:Int)<0 then (- (s:Int)+(xs.length:Int)).toNat else _)=_;rw [if_pos ()];omega,List.drop_zero,Nat.sub_zero]
def Uk (H:Hp) (out:List V) (qs:List QC):Prop:=cO (λv (q:QC)=>∃b dl,v=V.ref b/\H b=some (.tup [.int q.1,.int q.2.1,.int q.2.2.1,.ref dl])/\H dl=some (.lst (q.2.2.2.map V.int))) out qs
theorem kP:∀{ns:List (Int×Int)},(∀q∈ns,0<=q.2/\q.2<=9)->∀y,0<=qf ns y/\qf ns y<=9
 | [],_,y=>by unfold qf;omega
 | q::r,h,y=>by
  have h0:=h q (aG ..)
  have ih:=kP (λz hz=>h z (aD _ hz)) y
  unfold qf
  split <;> omega
theorem Zr {α β γ:Type}(f:α->β->γ) {xs:List α}{ys:List β}{i:Nat}{x:α}{y:β}(h1:xs[i]? = some x) (h2:ys[i]? = some y):(bX f xs ys).take (i+1)=(bX f xs ys).take i++[f x y]:=by
 rw [bW,d6,h1,h2]
 rfl
def JE (C:Addr):Sp:=λvs H Q _=>∃(p:Addr) (g:IceG) (l fst last:Int) (sk:List (Int×Addr)) (wr:List (Int×T3)) (ns ms:List (Int×Int)) (gd:List Int),vs=[.ref p,.int l,.int fst,.int last]/\IceAt C H p g/\g.lds.length=g.slopes.length/\g.kvs=sk.map kvA/\qN H sk wr/\1<=g.rows.length/\g.rows.length<=1000/\(∀z,good (qK wr g.rows z)=true)/\YN g l ns/\ms.Perm ns/\(ms.map (·.1)).Pairwise (· <= ·)/\g.slopes.getD l.toNat []=gd/\1<=gd.length/\gd.length<=100/\(last+1-fst).toNat<=900 /\
 ∀o out H',H o=none->H' o=some (.lst out)->Uk H' out (zL ms gd wr g.rows fst (last+1-fst).toNat)->jm H H'->Q (.ref o) H'
theorem jV:FnScope ["ice","lane","first","last","slope","leaps","depths","rows","year","steps","gone","weather","moved","fallen"] ["ice","lane","first","last"] (j8 xh):=by walk_at "s"
theorem XO {f C CN CP:Addr}{fd:FuncData}(nb:Nb2 mg) (b_dict:mg "dict" = none) (cl_Ice:Cls K C) (c_Ice__surges:CalMX P w K mg base 2 C "surges" ["self","lane"] (wK C CN)) (c_Ice__length:CalMX P w K mg base 2 C "length" ["self","lane"] (vT C CN)) (c_change:Cal P w K mg base 1 "change" ["row","height"] JD) (c_Ice__sky:CalM P w K mg base 1 C "sky" ["self","year"] (V4 C)) (c_Ice__height:CalMX P w K mg base 3 C "height" ["self","lane","place"] (k9 C CN CP))
  (F:Fun K "course" "course" xh f fd):FnOk P w K mg base (CX1 P w) 4 f fd ["ice","lane","first","last"] (JE C):=by
 refine Fun.okX F jV (λvs H Q E h=>?_) (λcdv A outer s H vs Q E hr h=>?_)
 ·obtain ⟨p,g,l,fst,last,sk,wr,ns,ms,gd,rfl,_⟩:=h
  rfl
 ·obtain ⟨p,g,l,fst,last,sk,wr,ns,ms,gd,rfl,I,hll,ek,hw,hr1,hr2,sg,⟨l0,l1,⟨a,ha⟩,nd,h64,h9⟩,hp,hs,hgd,g1,g100,hn,k⟩:=h
  have ndm:(ms.map (·.1)).Nodup:=(hp.map (·.1)).nodup_iff.mpr nd
  have hlm:ms.length<64:=by rw [hp.length_eq];exact h64
  refine ⟨_,(j6 (ym (j:=4) (osc:=(j8 xh)) (ON:=["ice","lane","first","last","slope","leaps","depths","rows","year","steps","gone","weather","moved","fallen"]) (N:=["place","lane","ice"]) (own:=1) (caps:=[1,0]) ⟨rfl,∅,∅,∅,rfl,∅⟩ jV.nd rfl (aU rfl) rfl rfl rfl (qd rfl nb.b_range (j0 (zQ (pv 0) cl_Ice c_Ice__length (hr.mono ⋯) qO (j0 (pv 1) j2)) j2)) (λ_ _ _ _ _=>(jb (i:=0) (show aY (["place","lane","ice"]:List Str) by decide +kernel) rfl (aU rfl))) (λ_ _ _ _ _=>jv) (λ_ _ _ _ _=>(zQ (pv 2) cl_Ice c_Ice__height (hr.mono ⋯) gh (j0 (pv 1) (j0 (pv 0) j2)))))
   (j6 (jy 5 jV.nd (jP (Qo K rfl) rfl b_dict dO (j0 (zQ (pv 0) cl_Ice c_Ice__surges (hr.mono ⋯) qO (j0 (pv 1) j2)) j2)))
   (j6 (ym (j:=6) (osc:=(j8 xh)) (ON:=["ice","lane","first","last","slope","leaps","depths","rows","year","steps","gone","weather","moved","fallen"]) (N:=["height"]) (own:=1) (caps:=[]) ⟨rfl,∅,∅,∅,rfl,∅⟩ jV.nd rfl (aU rfl) rfl rfl rfl (qa K (pv 4)) (λ_ _ _ _ _=>(jb (i:=0) (show aY (["height"]:List Str) by decide +kernel) rfl (aU rfl))) (λ_ _ _ _ _=>jv) (λ_ _ _ _ _=>j7))
   (j6 (jy 7 jV.nd (jQ j2))
   (j6 (VC (xF bA rfl (XW rfl nb.b_range (j0 (pv 2) (j0 (jo jR (pv 3) j7) j2))) (jb (i:=8) jV.nd rfl (aU rfl)) (j6 (jy 9 jV.nd (jg (yi rfl) rfl nb.b_min pI (j0 (jo jR j7 (JI (jG hr) (pv 5) (pv 8) j7 ⟨rfl,rfl,rfl,rfl⟩)) (j0 (jg (jf K) rfl nb.b_len aS (j0 (pv 4) j2)) j2))))
   (j6 (jy 10 jV.nd (jg (vR K rfl) rfl nb.b_sum pH (j0 (gK (kj K) (pv 6) (Qv (vg zF (pv 9))) QS) j2)))
   (j6 (jy 6 jV.nd (jo QZ (jN (osc:=(j8 xh)) (ON:=["ice","lane","first","last","slope","leaps","depths","rows","year","steps","gone","weather","moved","fallen"]) (N:=["step"]) (own:=1) (caps:=[]) ⟨rfl,∅,∅,∅,rfl,∅⟩ rfl rfl rfl (qd rfl nb.b_range (j0 (pv 9) j2)) (λ_ _ _ _ _=>(jb (i:=0) (show aY (["step"]:List Str) by decide +kernel) rfl (aU rfl))) (λ_ _ _ _ _=>jv) (λ_ _ _ _ _=>j7)) (gK (kj K) (pv 6) QS (Qv (vg zF (pv 9))))))
   (j6 (vU (i:=11) jV.nd rfl (lA rfl) (pe_m (pv 0) cl_Ice c_Ice__sky (hr.mono ⋯) (j0 (pv 8) j2)))
   (j6 (ym (j:=12) (osc:=(j8 xh)) (ON:=["ice","lane","first","last","slope","leaps","depths","rows","year","steps","gone","weather","moved","fallen"]) (N:=["lying","height","weather"]) (own:=2) (caps:=[11]) ⟨rfl,∅,∅,∅,rfl,∅⟩ jV.nd rfl (aU rfl) rfl rfl rfl (Qw K rfl nb.b_zip (j0 (pv 6) (j0 (pv 4) j2))) (λ_ _ _ _ _=>(qS (n:=2) K rfl (js (jb (i:=0) (show aY (["lying","height","weather"]:List Str) by decide +kernel) rfl (aU rfl)) (js (jb (i:=1) (show aY (["lying","height","weather"]:List Str) by decide +kernel) rfl (aU rfl)) qT)))) (λ_ _ _ _ _=>jv) (λ_ _ _ _ _=>(jg (yj rfl) rfl nb.b_max nH (j0 (vg zF (pv 0)) (j0 (jd c_change (hr.mono ⋯) rfl (j0 (pv 2) (j0 (pv 1) j2))) j2)))))
   (j6 (ym (j:=6) (osc:=(j8 xh)) (ON:=["ice","lane","first","last","slope","leaps","depths","rows","year","steps","gone","weather","moved","fallen"]) (N:=["lying","hands"]) (own:=2) (caps:=[]) ⟨rfl,∅,∅,∅,rfl,∅⟩ jV.nd rfl (aU rfl) rfl rfl rfl (Qw K rfl nb.b_zip (j0 (pv 6) (j0 (pv 12) j2))) (λ_ _ _ _ _=>(qS (n:=2) K rfl (js (jb (i:=0) (show aY (["lying","hands"]:List Str) by decide +kernel) rfl (aU rfl)) (js (jb (i:=1) (show aY (["lying","hands"]:List Str) by decide +kernel) rfl (aU rfl)) qT)))) (λ_ _ _ _ _=>jv) (λ_ _ _ _ _=>(jo jR (pv 0) (pv 1))))
   (j6 (jy 13 jV.nd (jg (vR K rfl) rfl nb.b_sum pH (j0 (jN (osc:=(j8 xh)) (ON:=["ice","lane","first","last","slope","leaps","depths","rows","year","steps","gone","weather","moved","fallen"]) (N:=["hands"]) (own:=1) (caps:=[]) ⟨rfl,∅,∅,∅,rfl,∅⟩ rfl rfl rfl (qa K (pv 12)) (λ_ _ _ _ _=>(jb (i:=0) (show aY (["hands"]:List Str) by decide +kernel) rfl (aU rfl))) (λ_ _ _ _ _=>(vv (jK Zo (pv 0) j7 (qm _)))) (λ_ _ _ _ _=>(pv 0))) j2)))
   (j9 (jT (yG K bY bO bP qG (pv 7) (j0 (zN (j0 (pv 13) (j0 (jo zH (pv 13) (jg (vR K rfl) rfl nb.b_sum pH (j0 (pv 12) j2))) (j0 (pv 10) (j0 (pv 6) j2))))) j2)))))))))))))
   (j9 (jn (pv 7)))))))),?_⟩
  left
  refine ⟨p,g.dx,_,rfl,I.ob,qB ∅,?_⟩
  left
  refine ⟨p,g,l,rfl,I,λ_ _=>?_,λhb=>absurd hb ()⟩
  rw [hgd]
  left
  refine ⟨(),(),λsl hsl=>?_⟩
  refine qw (lo:=0) (n:=((gd.length:Nat):Int).toNat) (acc:=sl) (λi σ H1=>∃x:Option V,σ=[x,some (.int l),some (.ref p)]/\H1 sl=some (.lst ((gd.take i).map V.int))/\Ext sl H H1) ?_ ?_ ?_
  ·exact ⟨none,rfl,j4,Ext.put⟩
  ·rintro i σ H1 hi ⟨x,rfl,h1,e1⟩
   have hi':i<gd.length:=by rw [bg] at hi;exact hi
   have s1:jm H H1:=λc o hc=>e1 c o hc (j1 hc hsl)
   left
   refine ⟨p,g.dx,_,rfl,s1 _ _ I.ob,qB ∅,?_⟩
   left
   refine ⟨p,g,l,0+(i:Int),rfl,I.same s1,λ_ _ _ _=>?_,(λhb=>absurd hb ()),λ_ _ hb=>absurd hb (by rw [hgd];omega)⟩
   rw [hgd]
   refine ⟨_,h1,by rw [af,aM];exact jc (),_,rfl,?_,e1.trans Ext.put⟩
   rw [j4,bW,aa hi',aB,show (0+(i:Int)).toNat=i by omega,ak,aa hi']
   rfl
  rintro σ H1 ⟨x,rfl,h1,e1⟩
  have s1:jm H H1:=λc o hc=>e1 c o hc (j1 hc hsl)
  rw [bg,bb] at h1
  left
  refine ⟨p,g.dx,_,rfl,s1 _ _ I.ob,qB ∅,?_⟩
  left
  refine ⟨p,g,l,rfl,I.same s1,hll,(λhb=>absurd hb ()),λ_ _=>⟨a,ns,ha,nd,h64,λso H2 out ms2 hso hso2 hq2 s2 hp2 hs2=>?_⟩⟩
  obtain rfl:=wt nd hp hs hp2 hs2
  left
  refine ⟨so,out,ms2,rfl,SqL.of hso2,hq2,ndm,(),λd H3 hd hd3 s3=>?_⟩
  have hd3:H3 d=some (.dK (ms2.map kvI)):=hd3
  have h3:=s3 _ _ (s2 _ _ h1)
  left
  refine ⟨⟨_,SqL.of h3⟩,λd0 hd0=>?_⟩
  refine jW (K:=K) (a:=sl) (xs:=gd.map V.int) (acc:=d0) (λi σ H4=>∃x:Option V,σ=[x]/\H4 d0=some (.lst ((cZ i (0:Int)).map V.int))/\Ext d0 H3 H4) ?_ ?_ ?_ ?_
  ·exact ⟨none,rfl,j4,Ext.put⟩
  ·rintro i σ H4 hi ⟨x,rfl,h4,e4⟩
   exact SqL.of (e4 _ _ h3 (j1 h3 hd0))
  ·rintro i v σ H4 hv ⟨x,rfl,h4,e4⟩
   have hi:i<gd.length:=by have:=(List.getElem?_eq_some_iff.mp hv).1;rw [af] at this;exact this
   left
   refine ⟨_,h4,by rw [af,bD];exact jc (),_,rfl,?_,e4.trans Ext.put⟩
   rw [j4,mf,aB]
   rfl
  rintro σ H4 ⟨x,rfl,h4,e4⟩
  have s4:jm H3 H4:=λc o hc=>e4 c o hc (j1 hc hd0)
  rw [af] at h4
  have t4:jm H H4:=s1.trans (s2.trans (s3.trans s4))
  have hsl4:=s4 _ _ h3
  have hdk4:=s4 _ _ hd3
  left
  refine ⟨aJ _,λrw_ H5 hrw hrw5 s5=>?_⟩
  have rw0:H rw_=none:=t4.free hrw
  left
  refine ⟨_,_,rfl,?_⟩
  refine xK (λi σ H6=>∃(x8 x9 x10 x11 x12 x13:Option V) (dl:Addr) (out6:List V),σ=[some (.ref p),some (.int l),some (.int fst),some (.int last),some (.ref sl),some (.ref d),some (.ref dl),some (.ref rw_),x8,x9,x10,x11,x12,x13]/\dl≠rw_/\H6 dl=some (.lst ((xG ms2 gd wr g.rows fst i).map V.int))/\H6 rw_=some (.lst out6)/\out6.length=i/\cO (λv (q:QC)=>∃b dl,v=V.ref b/\H6 b=some (.tup [.int q.1,.int q.2.1,.int q.2.2.1,.ref dl])/\H6 dl=some (.lst (q.2.2.2.map V.int))/\dl≠rw_) out6 (zL ms2 gd wr g.rows fst i)/\Ext rw_ H4 H6) ?_ ?_ ?_
  ·exact ⟨_,_,_,_,_,_,d0,[],rfl,j1 h4 hrw,s5 _ _ h4,hrw5,rfl,.nil,λc o hc _=>s5 _ _ hc⟩
  ·rintro i σ H6 hi ⟨x8,x9,x10,x11,x12,x13,dl,out6,rfl,dlr,hdl,h6,hl6,r6,e6⟩
   have hdlen:=qv ms2 gd wr g.rows fst i
   have hdb:=Q8 (ns:=ms2) (gd:=gd) (fst:=fst) sg i
   have s6:jm H4 H6:=λc o hc=>e6 c o hc (j1 hc hrw)
   have I6:=I.same (t4.trans s6)
   have hw6:qN H6 sk wr:=hw.keep (ji.same (t4.trans s6))
   have hsl6:=s6 _ _ hsl4
   have hdk6:=s6 _ _ hdk4
   have h9m:∀q∈ms2,0<=q.2/\q.2<=9:=λq hq=>h9 q (hp.mem_iff.mp hq)
   have vb:=kP h9m (fst+(i:Int))
   have hcr:xa ms2 gd wr g.rows fst i=gH gd (qK wr g.rows (fst+(i:Int))) (xi ms2 gd.length (fst+(i:Int))) (xG ms2 gd wr g.rows fst i):=rfl
   have hdn:xG ms2 gd wr g.rows fst (i+1)=(gH gd (qK wr g.rows (fst+(i:Int))) (xi ms2 gd.length (fst+(i:Int))) (xG ms2 gd wr g.rows fst i)).2.2.2:=rfl
   have es:(if ((gd.length:Nat):Int)<1+qf ms2 (fst+(i:Int)) then ((gd.length:Nat):Int) else 1+qf ms2 (fst+(i:Int)))=((xi ms2 gd.length (fst+(i:Int)):Nat):Int):=by
    unfold xi
    split <;> omega
   have hs1:1<=xi ms2 gd.length (fst+(i:Int)):=by unfold xi;omega
   have hs2:=uK ms2 gd.length (fst+(i:Int))
   have sgi:=sg (fst+(i:Int))
   generalize xi ms2 gd.length (fst+(i:Int))=sN at *
   generalize xG ms2 gd wr g.rows fst i=dep at *
   have hi900:i<900:=()
   left
   refine ⟨.inl ⟨_,.inl hdk6⟩,?_⟩
   left
   refine ⟨_,qL.k (k:=.inl (fst+(i:Int))) hdk6,?_⟩
   rw [wJ]
   left
   refine ⟨_,_,rfl,.inl (SqL.of hsl6),?_⟩
   rw [af]
   left
   refine ⟨_,_,rfl,?_⟩
   rw [es]
   left
   refine ⟨_,_,rfl,SqL.of hdl,λa7 H7 ha7 ha77 s7=>?_⟩
   rw [ZF hs1 (by rw [af,hdlen];exact hs2),af,<- List.map_drop] at ha77
   left
   refine ⟨a7,_,rfl,SqL.of ha77,by rw [iW];omega,λn hn'=>by have:=hdb n (List.mem_of_mem_drop hn');omega,?_⟩
   left
   refine ⟨(),(),λz0 hz0=>?_⟩
   refine qw (lo:=0) (n:=((sN:Nat):Int).toNat) (acc:=z0) (λj σ H8=>∃x:Option V,σ=[x]/\H8 z0=some (.lst ((cZ j (0:Int)).map V.int))/\Ext z0 H7 H8) ?_ ?_ ?_
   ·exact ⟨none,rfl,j4,Ext.put⟩
   ·rintro j σ H8 hj ⟨x,rfl,h8,e8⟩
    rw [bg] at hj
    left
    refine ⟨_,h8,by rw [af,bD];exact jc (),_,rfl,?_,e8.trans Ext.put⟩
    rw [j4,mf,aB]
    rfl
   rintro σ H8 ⟨x,rfl,h8,e8⟩
   have s8:jm H7 H8:=λc o hc=>e8 c o hc (j1 hc hz0)
   rw [bg] at h8
   have hdl8:=s8 _ _ (s7 _ _ hdl)
   left
   refine ⟨_,_,rfl,SqL.of hdl8,λa9 H9 ha9 ha99 s9=>?_⟩
   rw [Zf hs1 (by rw [af,hdlen];exact hs2),af,<- List.map_take] at ha99
   refine ⟨z0,a9,_,_,rfl,rfl,s9 _ _ h8,ha99,by rw [af,af,bD,aM];exact cU (jc ()),λd1 H10 hd1 hd10 s10=>?_⟩
   have hd10:H10 d1=some (.lst ((jC sN dep).map V.int)):=by rw [hd10,<- aB];rfl
   have s610:jm H6 H10:=s7.trans (s8.trans (s9.trans s10))
   have I10:=I6.same s610
   left
   refine ⟨p,g.dx,_,rfl,I10.ob,qB ∅,?_⟩
   left
   refine ⟨p,g,fst+(i:Int),sk,wr,rfl,I10,ek,hw6.keep (ji.same s610),hr1,hr2,λtr htr=>?_⟩
   have hsl10:=s610 _ _ hsl6
   have hshl:=xT (d:=dep) (s:=sN) ()
   have hshb:∀x∈jC sN dep,0<=x/\x<=9*(i:Int):=λx hx=>by
    rcases wZ hx with e | e
    ·omega
    ·exact hdb x e
   have hmvl:=gR (t:=qK wr g.rows (fst+(i:Int))) (d:=jC sN dep) (gd:=gd) ()
   have hmvb:=QV sgi (B:=9*(i:Int)) (gd:=gd) hshb
   have lmax:∀x h:Int,(if chg (qK wr g.rows (fst+(i:Int))) h > -x then chg (qK wr g.rows (fst+(i:Int))) h else -x)=(λx h=>if chg (qK wr g.rows (fst+(i:Int))) h > -x then chg (qK wr g.rows (fst+(i:Int))) h else -x) x h:=λ_ _=>rfl
   left
   refine ⟨false,false,_,_,rfl,⟨_,SqL.of hd10⟩,⟨_,SqL.of hsl10⟩,λmo hmo=>?_⟩
   refine wN (K:=K) (t0:=false) (u0:=false) (a:=d1) (b:=sl) (xs:=(jC sN dep).map V.int) (ys:=gd.map V.int) (acc:=mo) (by rw [af,af];omega) (λj σ H11=>∃x0 x1:Option V,σ=[x0,x1,some (.ref tr)]/\H11 mo=some (.lst (((zn (qK wr g.rows (fst+(i:Int))) (jC sN dep) gd).take j).map V.int))/\Ext mo H10 H11) ?_ ?_ ?_ ?_
   ·exact ⟨none,none,rfl,j4,Ext.put⟩
   ·rintro j σ H11 hj ⟨x0,x1,rfl,h11,e11⟩
    exact ⟨SqL.of (e11 _ _ hd10 (j1 hd10 hmo)),SqL.of (e11 _ _ hsl10 (j1 hsl10 hmo))⟩
   ·rintro j x y σ H11 tp hx hy ⟨x0,x1,rfl,h11,e11⟩ htp
    obtain ⟨xv,rfl,hxv⟩:=xL hx
    obtain ⟨yv,rfl,hyv⟩:=xL hy
    have hj:j<gd.length:=(List.getElem?_eq_some_iff.mp hyv).1
    have e12:Ext mo H10 (upd H11 tp (.tup [.int xv,.int yv])):=λc o hc n=>(jm.new htp) _ _ (e11 c o hc n)
    have h12:=(jm.new (o:=.tup [.int xv,.int yv]) htp) _ _ h11
    have htp':upd H11 tp (.tup [.int xv,.int yv]) tp=some (.tup [.int xv,.int yv]):=j4
    generalize upd H11 tp (.tup [.int xv,.int yv])=H12 at *
    have htr12:=e12 _ _ htr (j1 htr hmo)
    left
    refine ⟨tp,_,rfl,SqT.of htp',rfl,?_⟩
    refine ⟨_,_,rfl,_,_,rfl,rfl,?_⟩
    left
    refine ⟨tr,_,_,rfl,htr12,?_⟩
    left
    refine ⟨_,_,rfl,?_⟩
    refine ⟨_,h12,by rw [af,aM];exact jc (),_,_,rfl,?_,e12.trans Ext.put⟩
    rw [j4]
    unfold zn
    rw [Zr _ hxv hyv,aB]
    rfl
   rintro σ H11 ⟨x0,x1,rfl,h11,e11⟩
   have s11:jm H10 H11:=λc o hc=>e11 c o hc (j1 hc hmo)
   rw [af,bI ()] at h11
   generalize hmvg:zn (qK wr g.rows (fst+(i:Int))) (jC sN dep) gd=mvs at *
   have hd11:=s11 _ _ hd10
   left
   refine ⟨false,false,_,_,rfl,⟨_,SqL.of hd11⟩,⟨_,SqL.of h11⟩,λd2 hd2=>?_⟩
   refine wN (K:=K) (t0:=false) (u0:=false) (a:=d1) (b:=mo) (xs:=(jC sN dep).map V.int) (ys:=mvs.map V.int) (acc:=d2) (by rw [af,af];omega) (λj σ H12=>∃x0 x1:Option V,σ=[x0,x1]/\H12 d2=some (.lst (((bX (· + ·) (jC sN dep) mvs).take j).map V.int))/\Ext d2 H11 H12) ?_ ?_ ?_ ?_
   ·exact ⟨none,none,rfl,j4,Ext.put⟩
   ·rintro j σ H12 hj ⟨x0,x1,rfl,h12,e12⟩
    exact ⟨SqL.of (e12 _ _ hd11 (j1 hd11 hd2)),SqL.of (e12 _ _ h11 (j1 h11 hd2))⟩
   ·rintro j x y σ H12 tp hx hy ⟨x0,x1,rfl,h12,e12⟩ htp
    obtain ⟨xv,rfl,hxv⟩:=xL hx
    obtain ⟨yv,rfl,hyv⟩:=xL hy
    have hj:j<mvs.length:=(List.getElem?_eq_some_iff.mp hyv).1
    have e13:Ext d2 H11 (upd H12 tp (.tup [.int xv,.int yv])):=λc o hc n=>(jm.new htp) _ _ (e12 c o hc n)
    have h13:=(jm.new (o:=.tup [.int xv,.int yv]) htp) _ _ h12
    have htp':upd H12 tp (.tup [.int xv,.int yv]) tp=some (.tup [.int xv,.int yv]):=j4
    generalize upd H12 tp (.tup [.int xv,.int yv])=H13 at *
    left
    refine ⟨tp,_,rfl,SqT.of htp',rfl,?_⟩
    refine ⟨_,_,rfl,_,_,rfl,rfl,?_⟩
    left
    refine ⟨_,h13,by rw [af,aM];exact jc (by rw [eM];omega),_,_,rfl,?_,e13.trans Ext.put⟩
    rw [j4,Zr _ hxv hyv,aB]
    rfl
   rintro σ H12 ⟨x0,x1,rfl,h12,e12⟩
   have s12:jm H11 H12:=λc o hc=>e12 c o hc (j1 hc hd2)
   rw [af,bI (by rw [eM];omega)] at h12
   have hmo12:=s12 _ _ h11
   left
   refine ⟨⟨_,SqL.of hmo12⟩,λfa hfa=>?_⟩
   refine jW (K:=K) (a:=mo) (xs:=mvs.map V.int) (acc:=fa) (λj σ H13=>∃x:Option V,σ=[x]/\H13 fa=some (.lst (((mvs.take j).filter λx=>decide (0<x)).map V.int))/\Ext fa H12 H13) ?_ ?_ ?_ ?_
   ·exact ⟨none,rfl,j4,Ext.put⟩
   ·rintro j σ H13 hj ⟨x,rfl,h13,e13⟩
    exact SqL.of (e13 _ _ hmo12 (j1 hmo12 hfa))
   ·rintro j v σ H13 hv ⟨x,rfl,h13,e13⟩
    obtain ⟨mv,rfl,hmv⟩:=xL hv
    have hj:j<mvs.length:=(List.getElem?_eq_some_iff.mp hmv).1
    have etk:mvs.take (j+1)=mvs.take j++[mv]:=by rw [bW,hmv];rfl
    left
    refine xg (λhle=>?_) (λhle=>?_)
    ·left
     refine ⟨_,h13,by rw [af];exact bZ (cf _ _) (jc (by rw [aM];omega)),_,rfl,?_,e13.trans Ext.put⟩
     rw [j4,etk,cn,fi (by rw [decide_eq_true hle]),aB]
     rfl
    ·refine ⟨_,rfl,?_,e13⟩
     rw [etk,cn,fh (by rw [decide_eq_false hle];exact aq),oG,bo]
     exact h13
   rintro σ H13 ⟨x,rfl,h13,e13⟩
   have s13:jm H12 H13:=λc o hc=>e13 c o hc (j1 hc hfa)
   rw [af,bI (ao _)] at h13
   have mvb2:∀n∈mvs,-(2 ^ 20)<=n/\n<=2 ^ 20:=λn hn'=>by have:=hmvb n hn';omega
   left
   refine ⟨fa,_,rfl,SqL.of h13,aF (cf _ _) (),λn hn'=>mvb2 n (List.mem_filter.mp hn').1,?_⟩
   have s613:jm H6 H13:=s610.trans (s11.trans (s12.trans s13))
   have h613:=s613 _ _ h6
   left
   refine ⟨.inl ⟨rfl,_,SqL.of h613⟩,?_⟩
   left
   refine ⟨mo,mvs,rfl,SqL.of (s13 _ _ hmo12),(),mvb2,?_⟩
   left
   refine ⟨by show 4<=sizeLine;decide,λtq H14 htq htq4 s14=>?_⟩
   refine ⟨_,_,_,rfl,rfl,s14 _ _ h613,jc (),?_⟩
   have s614:=s613.trans s14
   have hd14:=s14 _ _ (s13 _ _ h12)
   have d2r:d2≠rw_:=(j1 (s11 _ _ (s610 _ _ h6)) hd2).symm
   have tqr:tq≠rw_:=(j1 h613 htq).symm
   have hrow:xa ms2 gd wr g.rows fst i=((mvs.filter λx=>decide (0<x)).sum,(mvs.filter λx=>decide (0<x)).sum-mvs.sum,(dep.drop (dep.length-sN)).sum,bX (· + ·) (jC sN dep) mvs):=by
    rw [hcr,<- hmvg]
    rfl
   refine ⟨_,_,_,_,_,_,d2,out6++[.ref tq],rfl,d2r,?_,j4,by rw [ax,hl6];rfl,?_,λc o hc n=>by rw [j5 n];exact s614 _ _ (e6 c o hc n)⟩
   ·rw [j5 d2r,hd14,hdn,<- hmvg]
    rfl
   ·rw [kR,hrow]
    refine cW (Paired.mapP r6 λv q ⟨b',dl',e,q1,q2,q3⟩=>⟨b',dl',e,?_,?_,q3⟩) ⟨tq,d2,rfl,by rw [j5 tqr];exact htq4,by rw [j5 d2r];exact hd14,d2r⟩
    ·rw [j5 (jh q1 h6 (by walk_at "z"))]
     exact s614 _ _ q1
    ·rw [j5 q3]
     exact s614 _ _ q2
  ·rintro σ H6 ⟨x8,x9,x10,x11,x12,x13,dl,out6,rfl,dlr,hdl,h6,hl6,r6,e6⟩
   left
   exact k rw_ out6 H6 rw0 h6 (Paired.mapP r6 λv q ⟨b',dl',e,q1,q2,_⟩=>⟨b',dl',e,q1,q2⟩) (t4.trans λc o hc=>e6 c o hc (j1 hc hrw))
theorem Xk {ns:List (Int×Int)}{len:Nat}{y:Int}(h:0<=qf ns y) (hl:1<=len):1<=xi ns len y:=by
 unfold xi
 omega
theorem Z6 {s:Nat}{d d':List Int}(hl:d.length=d'.length) (hs:1<=s) {i p:Nat}(hp:p<i+1) (h:∀q,q<i->d[q]? = d'[q]?):(jC s d)[p]? = (jC s d')[p]?:=by
 unfold jC
 rw [eC,eC,bD]
 by_cases z:p<s
 ·rw [if_pos z,if_pos z]
 ·rw [if_neg z,if_neg z,hl,eZ,eZ,h (p-s) ()]
theorem U9 {gd:List Int}{t:T3}{s:Nat}{d d':List Int}(hl:d.length=d'.length) (hs:1<=s) {i p:Nat}(hp:p<i+1) (h:∀q,q<i->d[q]? = d'[q]?):(gH gd t s d).2.2.2[p]? = (gH gd t s d').2.2.2[p]?:=by
 have e:=Z6 hl hs hp h
 show (bX (· + ·) (jC s d) (zn t (jC s d) gd))[p]? = (bX (· + ·) (jC s d') (zn t (jC s d') gd))[p]?
 unfold zn
 rw [d6,d6,d6,d6,e]
theorem uB {ns:List (Int×Int)}{gd:List Int}{wr:List (Int×T3)}{ts:List T3}(hv:∀y,0<=qf ns y) (h1:1<=gd.length) (fst:Int) (a:Nat):∀i p:Nat,p<i->(xG ns gd wr ts (fst+(a:Int)) i)[p]? = (xG ns gd wr ts fst (a+i))[p]?
 | 0,p,hp=>absurd hp (lN _)
 | i+1,p,hp=>by
  have ih:=uB (wr:=wr) (ts:=ts) hv h1 fst a i
  have e:fst+(a:Int)+(i:Int)=fst+((a+i:Nat):Int):=()
  show (gH gd (qK wr ts (fst+(a:Int)+(i:Int))) _ _).2.2.2[p]? = (gH gd (qK wr ts (fst+((a+i:Nat):Int))) _ _).2.2.2[p]?
  rw [e]
  exact U9 (by rw [qv,qv]) (Xk (hv _) h1) hp ih
theorem J5 {ns:List (Int×Int)}{gd:List Int}{wr:List (Int×T3)}{ts:List T3}(hv:∀y,0<=qf ns y) (h1:1<=gd.length) (fst:Int) (a i:Nat) (hi:gd.length<=i):xG ns gd wr ts (fst+(a:Int)) i=xG ns gd wr ts fst (a+i):=by
 refine fH λp=>?_
 by_cases z:p<i
 ·exact uB hv h1 fst a i p z
 ·rw [lS (by rw [qv];omega),lS (by rw [qv];omega)]
theorem gG {ns:List (Int×Int)}{gd:List Int}{wr:List (Int×T3)}{ts:List T3}(hv:∀y,0<=qf ns y) (h1:1<=gd.length) (fst:Int) (a i:Nat) (hi:gd.length<=i):xa ns gd wr ts (fst+(a:Int)) i=xa ns gd wr ts fst (a+i):=by
 unfold xa
 rw [J5 hv h1 fst a i hi,show fst+(a:Int)+(i:Int)=fst+((a+i:Nat):Int) by omega]
def wX (C:Addr):Sp:=λvs H Q _=>∃(p:Addr) (g:IceG) (l y:Int) (sk:List (Int×Addr)) (wr:List (Int×T3)) (ns ms:List (Int×Int)) (gd:List Int),vs=[.ref p,.int l,.int y]/\IceAt C H p g/\g.lds.length=g.slopes.length/\g.kvs=sk.map kvA/\qN H sk wr/\1<=g.rows.length/\g.rows.length<=1000/\(∀z,good (qK wr g.rows z)=true)/\YN g l ns/\ms.Perm ns/\(ms.map (·.1)).Pairwise (· <= ·)/\g.slopes.getD l.toNat []=gd/\1<=gd.length/\gd.length<=100/\0<=y /\
 ∀b dl q H',q=xa ms gd wr g.rows 0 y.toNat->q.2.2.2.length=gd.length->(∀x∈q.2.2.2,0<=x/\x<=9*900)->H' b=some (.tup [.int q.1,.int q.2.1,.int q.2.2.1,.ref dl])->H' dl=some (.lst (q.2.2.2.map V.int))->jm H H'->Q (.ref b) H'
theorem JG:FnScope ["ice","lane","year"] ["ice","lane","year"] (j8 yJ):=by walk_at "s"
theorem Ja {f C CN:Addr}{fd:FuncData}(nb:Nb2 mg) (cl_Ice:Cls K C) (c_Ice__length:CalMX P w K mg base 2 C "length" ["self","lane"] (vT C CN)) (c_course:CalX P w K mg base 4 "course" ["ice","lane","first","last"] (JE C))
  (F:Fun K "year_row" "year_row" yJ f fd):FnOk P w K mg base (CX1 P w) 5 f fd ["ice","lane","year"] (wX C):=by
 refine Fun.okX F JG (λvs H Q E h=>?_) (λcdv A outer s H vs Q E hr h=>?_)
 ·obtain ⟨p,g,l,y,sk,wr,ns,ms,gd,rfl,_⟩:=h
  rfl
 ·obtain ⟨p,g,l,y,sk,wr,ns,ms,gd,rfl,I,hll,ek,hw,hr1,hr2,sg,LD,hp,hs,hgd,g1,g100,y0,k⟩:=h
  obtain ⟨l0,l1,_,_,_,h9⟩:=id LD
  have hv:∀z,0<=qf ms z:=λz=>(kP (λq hq=>h9 q (hp.mem_iff.mp hq)) z).1
  refine ⟨_,(j9 (jn (jq (ja K) (zJ c_course (hr.mono ⋯) qO rfl (j0 (pv 0) (j0 (pv 1) (j0 (jg (yj rfl) rfl nb.b_max nH (j0 j7 (j0 (jo zH (pv 2) (zQ (pv 0) cl_Ice c_Ice__length (hr.mono ⋯) qO (j0 (pv 1) j2))) j2))) (j0 (pv 2) j2))))) (vg zF j7) (λ_ _=>rfl)))),?_⟩
  left
  refine ⟨p,g.dx,_,rfl,I.ob,qB ∅,?_⟩
  left
  refine ⟨p,g,l,rfl,I,λ_ _=>?_,λhb=>absurd hb ()⟩
  rw [hgd]
  left
  refine ⟨_,_,rfl,?_⟩
  left
  simp only [YG,bo]
  obtain ⟨fst,efst⟩:∃fst,(if y-(gd.length:Int) > 0 then y-(gd.length:Int) else 0)=fst:=⟨_,rfl⟩
  rw [efst]
  have hf:fst=0/\y<=(gd.length:Int)\/fst=y-(gd.length:Int)/\(gd.length:Int)<y:=by
   rw [<- efst]
   split <;> omega
  clear efst
  obtain ⟨i,ei⟩:∃i,(y+1-fst).toNat=i+1:=⟨(y-fst).toNat,()⟩
  have hrow:xa ms gd wr g.rows fst i=xa ms gd wr g.rows 0 y.toNat:=by
   rcases hf with ⟨rfl,h⟩ | ⟨rfl,h⟩
   ·rw [show i=y.toNat by omega]
   ·have e:=gG (wr:=wr) (ts:=g.rows) hv g1 0 (y-(gd.length:Int)).toNat gd.length (ao _)
    rw [show (0:Int)+((y-(gd.length:Int)).toNat:Int)=y-(gd.length:Int) by omega,show (y-(gd.length:Int)).toNat+gd.length=y.toNat by omega] at e
    rw [show i=gd.length by omega]
    exact e
  refine ⟨p,g,l,fst,y,sk,wr,ns,ms,gd,rfl,I,hll,ek,hw,hr1,hr2,sg,LD,hp,hs,hgd,g1,g100,(),λo out H3 ho ho3 r3 s3=>?_⟩
  rw [ei] at r3
  have hol:out.length=i+1:=(b8 r3).trans (by unfold zL;rw [af,bH])
  obtain ⟨q,hq,b,dl,eb,hb,hd⟩:=Paired.get r3 (aa (show i<out.length by omega))
  have hq:xa ms gd wr g.rows fst i=q:=by
   unfold zL at hq
   rw [au,mr ()] at hq
   exact aQ hq
  have eo:out=out.take i++[V.ref b]:=by
   have:=bI (lj hol)
   rw [bW,aa (show i<out.length by omega),eb] at this
   exact this.symm
  have hdp:q.2.2.2=xG ms gd wr g.rows fst (i+1):=by rw [<- hq];rfl
  left
  refine ⟨_,_,_,_,rfl,rfl,SqL.of ho3,(by rw [eo];exact Jo _ _),?_⟩
  refine k b dl q H3 (hq.symm.trans hrow) (by rw [hdp,qv]) (λx hx=>?_) hb hd s3
  have:=Q8 (ns:=ms) (gd:=gd) (fst:=fst) sg (i+1) x (by rw [<- hdp];exact hx)
  omega
def uq (d:List Int):List Int:=((aO d.length).filter λp=>decide (0<d.getD p 0)).map λp:Nat=>(p:Int)
def vI (d:List Int):V:=match (uq d).getLast? with
 | none=>.non
 | some x=>.int x
theorem ub (d:List Int):(uq d).Pairwise (· < ·):=by
 unfold uq
 rw [nJ]
 exact (List.Pairwise.filter _ List.pairwise_lt_range).imp λh=>()
def kY (d:List Int) (j:Nat):List Int:=((aO j).filter λp=>decide (0<d.getD p 0)).map λp:Nat=>(p:Int)
theorem ZV {d:List Int}{j:Nat}(h:0<d.getD j 0):kY d (j+1)=kY d j++[(j:Int)]:=by
 unfold kY
 rw [cC,cn,fi (by rw [decide_eq_true h]),aB]
 rfl
theorem Zj {d:List Int}{j:Nat}(h:¬0<d.getD j 0):kY d (j+1)=kY d j:=by
 unfold kY
 rw [cC,cn,fh (by rw [decide_eq_false h];exact aq),oG,bo]
theorem Zd (d:List Int) (j:Nat):(kY d j).length<=j:=by
 unfold kY
 rw [af]
 exact aF (cf _ _) (by rw [bH];exact ao _)
theorem Zx {ks:List Int}{M:Int}(hs:ks.Pairwise (· < ·)) (hM:M∈ks) (hle:∀x∈ks,x<=M):ks.getLast? = some M:=by
 have ne:ks≠[]:=λz=>by rw [z] at hM;cases hM
 rw [fX ne]
 have e:=i7 ne
 have h1:=hle _ (List.getLast_mem ne)
 rw [<- e] at hs hM
 congr 1
 rcases List.mem_append.mp hM with z | z
 ·have:=(List.pairwise_append.mp hs).2.2 M z _ (List.mem_singleton.mpr rfl)
  omega
 ·exact (List.mem_singleton.mp z).symm
def JB:Sp:=λvs H Q _=>∃(b dl:Addr) (x1 x2 x3:V) (d:List Int),vs=[.ref b]/\H b=some (.tup [x1,x2,x3,.ref dl])/\H dl=some (.lst (d.map V.int))/\d.length<=100/\∀H',jm H H'->Q (vI d) H'
theorem qR:FnScope ["row","fallen","melted","gone","depths"] ["row"] (j8 xI):=by walk_at "s"
theorem wB {f:Addr}{fd:FuncData}(nb:Nb2 mg) (F:Fun K "lowest_ice" "lowest_ice" xI f fd):FnOk P w K mg base CX0 1 f fd ["row"] JB:=by
 refine F.ok qR (λvs H Q E h=>?_) (λcdv A outer s H vs Q E hr h=>?_)
 ·obtain ⟨b,dl,x1,x2,x3,d,rfl,_⟩:=h
  rfl
 ·obtain ⟨b,dl,x1,x2,x3,d,rfl,hb,hd,d100,k⟩:=h
  refine ⟨_,(j6 (zr (pv 0) (qS (n:=4) K rfl (js (jb (i:=1) qR.nd rfl (aU rfl)) (js (jb (i:=2) qR.nd rfl (aU rfl)) (js (jb (i:=3) qR.nd rfl (aU rfl)) (js (jb (i:=4) qR.nd rfl (aU rfl)) qT))))))
   (j9 (jn (YT K rfl rfl nb.b_max (j0 (jN (osc:=(j8 xI)) (ON:=["row","fallen","melted","gone","depths"]) (N:=["place","lying"]) (own:=2) (caps:=[]) ⟨rfl,∅,∅,∅,rfl,∅⟩ rfl rfl rfl (kO K rfl nb.b_enumerate (j0 (pv 4) j2)) (λ_ _ _ _ _=>(qS (n:=2) K rfl (js (jb (i:=0) (show aY (["place","lying"]:List Str) by decide +kernel) rfl (aU rfl)) (js (jb (i:=1) (show aY (["place","lying"]:List Str) by decide +kernel) rfl (aU rfl)) qT)))) (λ_ _ _ _ _=>(vv (jK Zo (pv 1) j7 (qm _)))) (λ_ _ _ _ _=>(pv 0))) j2) JP)))),?_⟩
  left
  refine ⟨b,_,rfl,SqT.of hb,rfl,?_⟩
  refine ⟨_,_,rfl,_,_,rfl,_,_,rfl,_,_,rfl,rfl,?_⟩
  left
  refine ⟨⟨_,SqL.of hd⟩,λacc hacc=>?_⟩
  refine ki (K:=K) (a:=dl) (xs:=d.map V.int) (acc:=acc) (λj σ H1=>∃x0 x1:Option V,σ=[x0,x1]/\H1 acc=some (.lst ((kY d j).map V.int))/\Ext acc H H1) ?_ ?_ ?_ ?_
  ·exact ⟨none,none,rfl,j4,Ext.put⟩
  ·rintro j σ H1 hj ⟨x0,x1,rfl,h1,e1⟩
   exact SqL.of (e1 _ _ hd (j1 hd hacc))
  ·rintro j v σ H1 t hv ⟨x0,x1,rfl,h1,e1⟩ ht
   obtain ⟨x,rfl,hx⟩:=xL hv
   have hj:j<d.length:=(List.getElem?_eq_some_iff.mp hx).1
   have ex:d.getD j 0=x:=by rw [ak,hx];rfl
   have tacc:t≠acc:=(j1 h1 ht).symm
   have sT:jm H1 (upd H1 t (.tup [.int (j:Int),.int x])):=jm.new ht
   have hil:=Zd d j
   left
   refine ⟨t,_,rfl,SqT.of j4,rfl,?_⟩
   refine ⟨_,_,rfl,_,_,rfl,rfl,?_⟩
   left
   refine xg (λz=>?_) (λz=>?_)
   ·left
    refine ⟨_,sT _ _ h1,by rw [af];exact jc (),_,_,rfl,?_,λc o hc n=>by rw [j5 n];exact sT _ _ (e1 c o hc n)⟩
    rw [j4,ZV (by rw [ex];exact z),aB]
    rfl
   ·exact ⟨_,_,rfl,by rw [Zj (by rw [ex];exact z)];exact sT _ _ h1,λc o hc n=>sT _ _ (e1 c o hc n)⟩
  rintro σ H1 ⟨x0,x1,rfl,h1,e1⟩
  have s1:jm H H1:=λc o hc=>e1 c o hc (j1 hc hacc)
  rw [af] at h1
  have h1:H1 acc=some (.lst ((uq d).map V.int)):=h1
  refine ⟨acc,uq d,rfl,SqL.of h1,λhnil=>?_,λM hM hle=>?_⟩
  ·have:vI d = .non:=by unfold vI;rw [hnil];rfl
   rw [this] at k
   left
   exact k H1 s1
  ·have:vI d = .int M:=by unfold vI;rw [Zx (ub d) hM hle]
   rw [this] at k
   exact k H1 s1
def hX (C CN CY:Addr):Sp:=λvs H Q E=>∃(p:Addr) (g:IceG) (l y:Int) (sk:List (Int×Addr)) (wr:List (Int×T3)),vs=[.ref p,.int l,.int y]/\IceAt C H p g/\g.lds.length=g.slopes.length/\g.kvs=sk.map kvA/\qN H sk wr/\1<=g.rows.length/\g.rows.length<=1000/\(∀z,good (qK wr g.rows z)=true) /\
 (l<0\/(g.slopes.length:Int)<=l->E (.ref CN) none H)/\(0<=l->l<(g.slopes.length:Int)->(y<0\/10 ^ 40<y->E (.ref CY) none H) /\
  (0<=y->y<=10 ^ 40->∃(ns ms:List (Int×Int)) (gd:List Int),YN g l ns/\ms.Perm ns/\(ms.map (·.1)).Pairwise (· <= ·)/\g.slopes.getD l.toNat []=gd/\1<=gd.length/\gd.length<=100/\∀H',jm H H'->Q (vI (xG ms gd wr g.rows 0 (y.toNat+1))) H'))
theorem Z8:FnScope ["ice","lane","year"] ["ice","lane","year"] (j8 gk):=by walk_at "s"
theorem Y6 {f C CN CY:Addr}{fd:FuncData}(nb:Nb2 mg) (cl_Ice:Cls K C) (c_Ice__check_lane:CalMX P w K mg base 1 C "check_lane" ["self","lane"] (qZ C CN)) (c_check_asked:CalX P w K mg base 1 "check_asked" ["year"] (vn CY)) (c_year_row:CalX P w K mg base 5 "year_row" ["ice","lane","year"] (wX C)) (c_lowest_ice:Cal P w K mg base 1 "lowest_ice" ["row"] JB)
  (F:Fun K "snout" "snout" gk f fd):FnOk P w K mg base (CX1 P w) 6 f fd ["ice","lane","year"] (hX C CN CY):=by
 refine Fun.okX F Z8 (λvs H Q E h=>?_) (λcdv A outer s H vs Q E hr h=>?_)
 ·obtain ⟨p,g,l,y,sk,wr,rfl,_⟩:=h
  rfl
 ·obtain ⟨p,g,l,y,sk,wr,rfl,I,hll,ek,hw,hr1,hr2,sg,kx,k⟩:=h
  refine ⟨_,(j6 (jT (zQ (pv 0) cl_Ice c_Ice__check_lane (hr.mono ⋯) qO (j0 (pv 1) j2)))
   (j6 (jT (zJ c_check_asked (hr.mono ⋯) qO rfl (j0 (pv 2) j2)))
   (j9 (jn (jd c_lowest_ice (hr.mono ⋯) rfl (j0 (zJ c_year_row (hr.mono ⋯) qO rfl (j0 (pv 0) (j0 (pv 1) (j0 (pv 2) j2)))) j2)))))),?_⟩
  left
  refine ⟨p,g.dx,_,rfl,I.ob,qB ∅,?_⟩
  left
  refine ⟨p,g,l,rfl,I,λl0 l1=>?_,kx⟩
  obtain ⟨ky,k⟩:=k l0 l1
  left
  refine ⟨λy0 y1=>?_,ky⟩
  obtain ⟨ns,ms,gd,LD,hp,hs,hgd,g1,g100,k⟩:=k y0 y1
  left
  refine ⟨p,g,l,y,sk,wr,ns,ms,gd,rfl,I,hll,ek,hw,hr1,hr2,sg,LD,hp,hs,hgd,g1,g100,y0,λb dl q H1 eq hql hqb hb hd s1=>?_⟩
  have edq:q.2.2.2=xG ms gd wr g.rows 0 (y.toNat+1):=by rw [eq];rfl
  rw [<- edq] at k
  left
  refine ⟨b,dl,_,_,_,_,rfl,hb,hd,(),λH2 s2=>?_⟩
  exact k H2 (s1.trans s2)
theorem Zc (p q sg gl ll q2:Addr):qc (scK p q sg gl ll) (.inr "rows") (.ref q2)=scK p q2 sg gl ll:=by
 unfold qc scK
 rw [if_pos (by simp [rG])]
 simp only [aN,eI]
 rw [if_neg (show ¬(aI (ai "reaches"):Key)=aI (ai "rows") by decide +kernel),if_pos trivial,if_neg (show ¬(aI (ai "single"):Key)=aI (ai "rows") by decide +kernel),if_neg (show ¬(aI (ai "grounds"):Key)=aI (ai "rows") by decide +kernel),if_neg (show ¬(aI (ai "leaps"):Key)=aI (ai "rows") by decide +kernel)]
theorem Qg (p q sg gl ll s2:Addr):qc (scK p q sg gl ll) (.inr "single") (.ref s2)=scK p q s2 gl ll:=by
 unfold qc scK
 rw [if_pos (by simp [rG])]
 simp only [aN,eI]
 rw [if_neg (show ¬(aI (ai "reaches"):Key)=aI (ai "single") by decide +kernel),if_neg (show ¬(aI (ai "rows"):Key)=aI (ai "single") by decide +kernel),if_pos trivial,if_neg (show ¬(aI (ai "grounds"):Key)=aI (ai "single") by decide +kernel),if_neg (show ¬(aI (ai "leaps"):Key)=aI (ai "single") by decide +kernel)]
theorem Xx (p q sg gl ll l2:Addr):qc (scK p q sg gl ll) (.inr "leaps") (.ref l2)=scK p q sg gl l2:=by
 unfold qc scK
 rw [if_pos (by simp [rG])]
 simp only [aN,eI]
 rw [if_neg (show ¬(aI (ai "reaches"):Key)=aI (ai "leaps") by decide +kernel),if_neg (show ¬(aI (ai "rows"):Key)=aI (ai "leaps") by decide +kernel),if_neg (show ¬(aI (ai "single"):Key)=aI (ai "leaps") by decide +kernel),if_neg (show ¬(aI (ai "grounds"):Key)=aI (ai "leaps") by decide +kernel),if_pos trivial]
def ZU:Sp:=λvs H Q _=>∃(sd:Addr) (c:ScN),vs=[.ref sd]/\ScAt H sd c/\c.lds.length<=100 /\
 ∀(s2 q2 g2 l2:Addr) (as:List Addr) (H':Hp),H s2=none->H q2=none->H g2=none->H l2=none->(∀a∈as,H a=none)->as.Nodup->g2∉as->q2≠l2->as.length=c.lds.length->H' s2=some (.dK (scK c.p q2 g2 c.gl l2))->H' q2=some (.lst c.ys)->H' g2=some (.dK (c.sk.map kvA))->H' l2=some (.lst (as.map V.ref))->(∀(i:Nat) a,as[i]? = some a->∃x,c.lds[i]? = some x/\H' a=some (.dK (x.2.map kvI)))->s2∉as->s2≠g2->jm H H'->Q (.ref s2) H'
theorem ze:FnScope ["_law_scene_here","_law_other"] ["_law_scene_here"] (j8 qC):=by walk_at "s"
theorem YM {f:Addr}{fd:FuncData}(nb:Nb2 mg) (b_dict:mg "dict" = none) (F:Fun K "_law_scene_copy" "_law_scene_copy" qC f fd):FnOk P w K mg base CX0 1 f fd ["_law_scene_here"] ZU:=by
 refine F.ok ze (λvs H Q E h=>?_) (λcdv A outer s H vs Q E hr h=>?_)
 ·obtain ⟨sd,c,rfl,_⟩:=h
  rfl
 ·obtain ⟨sd,c,rfl,S,h100,k⟩:=h
  have dg:∀{H':Hp} {a:Addr} (p q sg gl ll:Addr),H' a=some (.dK (scK p q sg gl ll))->qL H' a (.str "rows") (some (.ref q))/\qL H' a (.str "single") (some (.ref sg))/\qL H' a (.str "leaps") (some (.ref ll)):=λp q sg gl ll h=>⟨by rw [<- kE p q sg gl ll];exact qL.k (k:=.inr "rows") h,by rw [<- zv p q sg gl ll];exact qL.k (k:=.inr "single") h,by rw [<- wk p q sg gl ll];exact qL.k (k:=.inr "leaps") h⟩
  refine ⟨_,(j6 (jy 1 ze.nd (jP (yB K rfl) rfl b_dict dO (j0 (pv 0) j2)))
   (j6 (xx (jG hr) (pv 1) jt (jP (qo K) rfl nb.b_list c6 (j0 (jB (jG hr) (pv 0) jt (λ_ _=>rfl)) j2)) rfl)
   (j6 (xx (jG hr) (pv 1) jt (jP (yB K rfl) rfl b_dict dO (j0 (jB (jG hr) (pv 0) jt (λ_ _=>rfl)) j2)) rfl)
   (j6 (xx (jG hr) (pv 1) jt (jN (osc:=(j8 qC)) (ON:=["_law_scene_here","_law_other"]) (N:=["_law_leaps"]) (own:=1) (caps:=[]) ⟨rfl,∅,∅,∅,rfl,∅⟩ rfl rfl rfl (qa K (jB (jG hr) (pv 0) jt (λ_ _=>rfl))) (λ_ _ _ _ _=>(jb (i:=0) (show aY (["_law_leaps"]:List Str) by decide +kernel) rfl (aU rfl))) (λ_ _ _ _ _=>jv) (λ_ _ _ _ _=>(jP (yB K rfl) rfl b_dict dO (j0 (pv 0) j2)))) rfl)
   (j9 (jn (pv 1))))))),?_⟩
  left
  refine ⟨sd,_,rfl,.inl S.sd,λs2 H1 hs2 hs21 s1=>?_⟩
  left
  refine ⟨sd,_,rfl,(dg _ _ _ _ _ (s1 _ _ S.sd)).1,?_⟩
  left
  refine ⟨c.q,_,rfl,.inl (SqL.of (s1 _ _ S.q)),λq2 H2 hq2 hq22 t2=>?_⟩
  left
  have s12:=s1.trans t2
  refine ⟨s2,_,rfl,yZ.k (k:=.inr "rows") (t2 _ _ hs21) (by show 5<sizeLine;decide),?_⟩
  rw [Zc]
  have q2s:q2≠s2:=(j1 hs21 hq2).symm
  have h2:(upd H2 s2 (.dK (scK c.p q2 c.sg c.gl c.ll))) s2=some (.dK (scK c.p q2 c.sg c.gl c.ll)):=j4
  have hq2':(upd H2 s2 (.dK (scK c.p q2 c.sg c.gl c.ll))) q2=some (.lst c.ys):=by rw [j5 q2s];exact hq22
  have o2:jm H (upd H2 s2 (.dK (scK c.p q2 c.sg c.gl c.ll))):=λa o h=>by rw [j5 (j1 h hs2)];exact s12 _ _ h
  generalize upd H2 s2 (.dK (scK c.p q2 c.sg c.gl c.ll))=H3 at *
  have hq0:H q2=none:=s1.free hq2
  left
  refine ⟨sd,_,rfl,(dg _ _ _ _ _ (o2 _ _ S.sd)).2.1,?_⟩
  left
  refine ⟨c.sg,_,rfl,(S.same o2).sg,λg2 H4 hg2 hg24 s4=>?_⟩
  left
  refine ⟨s2,_,rfl,yZ.k (k:=.inr "single") (s4 _ _ h2) (by show 5<sizeLine;decide),?_⟩
  rw [Qg]
  have g2s:g2≠s2:=(j1 h2 hg2).symm
  have g20:H g2=none:=o2.free hg2
  have h4:(upd H4 s2 (.dK (scK c.p q2 g2 c.gl c.ll))) s2=some (.dK (scK c.p q2 g2 c.gl c.ll)):=j4
  have hq4:(upd H4 s2 (.dK (scK c.p q2 g2 c.gl c.ll))) q2=some (.lst c.ys):=by rw [j5 q2s];exact s4 _ _ hq2'
  have hg4:(upd H4 s2 (.dK (scK c.p q2 g2 c.gl c.ll))) g2=some (.dK (c.sk.map kvA)):=by rw [j5 g2s];exact hg24
  have o4:jm H (upd H4 s2 (.dK (scK c.p q2 g2 c.gl c.ll))):=λa o h=>by rw [j5 (j1 h hs2)];exact s4 _ _ (o2 _ _ h)
  clear hq2' h2 hg24
  generalize upd H4 s2 (.dK (scK c.p q2 g2 c.gl c.ll))=H5 at *
  have S5:=S.same o4
  left
  refine ⟨sd,_,rfl,(dg _ _ _ _ _ S5.sd).2.2,?_⟩
  left
  refine ⟨⟨_,SqL.of S5.ll⟩,λl2 hl2=>?_⟩
  refine jW (K:=K) (a:=c.ll) (xs:=c.lds.map λx=>V.ref x.1) (acc:=l2) (λi σ H6=>∃(x:Option V) (as:List Addr),σ=[x]/\H6 l2=some (.lst (as.map V.ref))/\as.length=i/\as.Nodup/\(∀a∈as,H5 a=none/\a≠l2)/\(∀(j:Nat) a,as[j]? = some a->∃x,c.lds[j]? = some x/\H6 a=some (.dK (x.2.map kvI)))/\Ext l2 H5 H6) ?_ ?_ ?_ ?_
  ·exact ⟨none,[],rfl,j4,rfl,.nil,(λa h=>by cases h),(λj a h=>by cases h),Ext.put⟩
  ·rintro i σ H6 hi ⟨x,as,rfl,h6,hl,nd,hf,hv,e6⟩
   exact SqL.of (e6 _ _ S5.ll (j1 S5.ll hl2))
  ·rintro i v σ H6 hvi ⟨x,as,rfl,h6,hl,nd,hf,hv,e6⟩
   rw [au] at hvi
   obtain ⟨y,hy,rfl⟩:=Option.map_eq_some_iff.mp hvi
   have hi:=(List.getElem?_eq_some_iff.mp hy).1
   have s6:jm H5 H6:=λc o hc=>e6 c o hc (j1 hc hl2)
   left
   refine ⟨y.1,_,rfl,(S5.same s6).ld y (av hy),λd H7 hd hd7 s7=>?_⟩
   have dl:d≠l2:=(j1 h6 hd).symm
   refine ⟨_,s7 _ _ h6,by rw [af];exact jc (),_,as++[d],rfl,(by rw [j4,aB];rfl),(by rw [ax,hl];rfl),vh nd λz=>?_,λa ha=>?_,λj a ha=>?_,λc o hc n=>by rw [j5 n];exact s7 _ _ (e6 c o hc n)⟩
   ·obtain ⟨j,hj,ej⟩:=List.mem_iff_getElem.mp z
    obtain ⟨_,_,h⟩:=hv j d (by rw [aa hj,ej])
    rw [hd] at h
    cases h
   ·rcases List.mem_append.mp ha with z | z
    ·exact hf a z
    ·rw [List.mem_singleton.mp z]
     exact ⟨s6.free hd,dl⟩
   ·by_cases hj:j<as.length
    ·rw [cD hj] at ha
     obtain ⟨x,h1,h2⟩:=hv j a ha
     have hm:=hf a (av ha)
     exact ⟨x,h1,by rw [j5 hm.2];exact s7 _ _ h2⟩
    ·rw [cw ()] at ha
     have hj0:j-as.length=0:=by
      have:=(List.getElem?_eq_some_iff.mp ha).1
      rw [aW] at this
      omega
     rw [hj0] at ha
     cases ha
     refine ⟨y,by rw [show j=i by omega];exact hy,?_⟩
     rw [j5 dl]
     exact hd7
  rintro σ H6 ⟨x,as,rfl,h6,hl,nd,hf,hv,e6⟩
  rw [af] at hl
  have s6:jm H5 H6:=λc o hc=>e6 c o hc (j1 hc hl2)
  left
  refine ⟨s2,_,rfl,yZ.k (k:=.inr "leaps") (s6 _ _ h4) (by show 5<sizeLine;decide),?_⟩
  rw [Xx]
  have nas:∀{a:Addr} {o:HO},H5 a=some o->a∉as:=λh z=>by have:=(hf _ z).1;rw [h] at this;cases this
  have l2s:l2≠s2:=(j1 h4 hl2).symm
  left
  refine k s2 q2 g2 l2 as _ hs2 hq0 g20 (o4.free hl2) (λa ha=>o4.free (hf a ha).1) nd (nas hg4) (j1 hq4 hl2) hl j4 ?_ ?_ ?_ (λi a ha=>?_) (nas h4) g2s.symm λa o h=>?_
  ·rw [j5 q2s];exact s6 _ _ hq4
  ·rw [j5 g2s];exact s6 _ _ hg4
  ·rw [j5 l2s];exact h6
  ·obtain ⟨x,h1,h2⟩:=hv i a ha
   refine ⟨x,h1,?_⟩
   have as2:a≠s2:=λz=>by subst z;exact nas h4 (av ha)
   rw [j5 as2]
   exact h2
  ·rw [j5 (j1 h hs2)]
   exact s6 _ _ (o4 _ _ h)
def y6 (t u:T3):Prop:=u.1=t.1/\t.2.1<=u.2.1/\u.2.2<=t.2.2
theorem y6.refl (t:T3):y6 t t:=⟨rfl,dH _,dH _⟩
theorem y6.chg {t u:T3}(h:y6 t u) (x:Int):chg t x<=chg u x:=by
 obtain ⟨h1,h2,h3⟩:=h
 unfold _root_.K31.chg
 rw [h1]
 split <;> omega
theorem uT:∀{wr:List (Int×T3)}{k:Int}{u:T3},k∈wr.map (·.1)->∀z:Int,((wr.map λq=>if q.1=k then (q.1,u) else q).find? λq=>decide (q.1=z))=if z=k then some (k,u) else wr.find? λq=>decide (q.1=z)
 | [],k,u,h,z=>by cases h
 | q::r,k,u,h,z=>by
  rw [aN]
  by_cases e:q.1=k
  ·rw [if_pos e]
   by_cases ez:z=k
   ·rw [if_pos ez,cB (by rw [decide_eq_true (show (q.1,u).1=z from e.trans ez.symm)]),e]
   ·rw [if_neg ez,c7 (by rw [decide_eq_false (λw=>ez (w.symm.trans e))];exact aq),c7 (by rw [decide_eq_false (λw=>ez (w.symm.trans e))];exact aq)]
    by_cases hr:k∈r.map (·.1)
    ·rw [uT hr z,if_neg ez]
    ·congr 1
     refine (cT λx hx=>if_neg λw=>hr (List.mem_map.mpr ⟨x,hx,w⟩)).trans (List.map_id' r)
  ·rw [if_neg e]
   have hr:k∈r.map (·.1):=by
    rcases List.mem_cons.mp h with w | w
    ·exact absurd w.symm e
    ·exact w
   by_cases ez:q.1=z
   ·rw [cB (by rw [decide_eq_true ez]),cB (by rw [decide_eq_true ez]),if_neg (λw=>e (ez.trans w))]
   ·rw [c7 (by rw [decide_eq_false ez];exact aq),c7 (by rw [decide_eq_false ez];exact aq),uT hr z]
theorem ur {α:Type}{l:List (Int×α)}{y:Int}{a:α}(h:y∈l.map (·.1)):qy l y a=l.map λz=>if z.1=y then (z.1,a) else z:=by
 unfold qy
 rw [if_pos]
 rw [List.any_eq_true]
 obtain ⟨z,hz,e⟩:=List.mem_map.mp h
 exact ⟨z,hz,decide_eq_true e⟩
theorem QE:∀{wr:List (Int×T3)}{i:Nat}{q:Int×T3},(wr.map (·.1)).Nodup->wr[i]? = some q->(wr.find? λx=>decide (x.1=q.1))=some q
 | [],i,q,_,h=>by cases h
 | x::r,0,q,nd,h=>by
  cases h
  rw [cB (by exact decide_eq_true rfl)]
 | x::r,i+1,q,nd,h=>by
  obtain ⟨n1,n2⟩:=List.nodup_cons.mp nd
  have h:r[i]? = some q:=h
  have ne:¬x.1=q.1:=λw=>n1 (by rw [show (λx:Int×T3=>x.1) x=q.1 from w];exact bp (av h))
  rw [c7 (by rw [decide_eq_false ne];exact aq)]
  exact QE n2 h
theorem XY {wr:List (Int×T3)}{ts:List T3}{i:Nat}{q:Int×T3}{u:T3}(nd:(wr.map (·.1)).Nodup) (h:wr[i]? = some q) (r:y6 q.2 u) (z:Int):y6 (qK wr ts z) (qK (qy wr q.1 u) ts z):=by
 have hin:q.1∈wr.map (·.1):=bp (av h)
 unfold qK
 rw [ur hin,uT hin]
 by_cases e:z=q.1
 ·rw [if_pos e,e,QE nd h]
  exact r
 ·rw [if_neg e]
  cases wr.find? λq=>decide (q.1=z) with
  | none=>exact y6.refl _
  | some x=>exact y6.refl _
theorem ZM {wr:List (Int×T3)}{ts:List T3}{i:Nat}{t u:T3}(h:ts[i]? = some t) (r:y6 t u) (z:Int):y6 (qK wr ts z) (qK wr (ts.set i u) z):=by
 unfold qK
 cases wr.find? λq=>decide (q.1=z) with
 | some x=>exact y6.refl _
 | none =>
  rw [dh]
  generalize (z % (ts.length:Int)).toNat=n
  show y6 (ts.getD n (0,0,0)) ((ts.set i u).getD n (0,0,0))
  rw [ak,ak,dZ]
  by_cases e:i=n
  ·subst e
   rw [if_pos rfl,if_pos (List.getElem?_eq_some_iff.mp h).1,h]
   exact r
  ·rw [if_neg e]
   exact y6.refl _
theorem qg.setV {H:Hp}:∀{ys:List V}{ts:List T3}{i:Nat}{a:Addr}{u:T3},qg H ys ts->H a=some (zo u)->qg H (ys.set i (.ref a)) (ts.set i u)
 | _,_,i,a,u,.nil,_=>.nil
 | _,_,0,a,u,.cons _ r,h=>.cons ⟨a,rfl,h⟩ r
 | _,_,i+1,a,u,.cons q r,h=>.cons q (qg.setV r h)
theorem qN.put {H:Hp}:∀{sk:List (Int×Addr)}{wr:List (Int×T3)}{k:Int}{a:Addr}{u:T3},qN H sk wr->H a=some (zo u)->qN H (sk.map λz=>if z.1=k then (z.1,a) else z) (wr.map λz=>if z.1=k then (z.1,u) else z)
 | _,_,k,a,u,.nil,_=>.nil
 | _,_,k,a,u,.cons (a:=z) (b:=q) ⟨e,h⟩ r,ha=>by
  rw [aN,aN]
  refine .cons ?_ (qN.put r ha)
  by_cases w:z.1=k
  ·rw [if_pos w,if_pos (e ▸ w)]
   exact ⟨e,ha⟩
  ·rw [if_neg w,if_neg (λx=>w (e.trans x))]
   exact ⟨e,h⟩
theorem qN.keysE {H:Hp}:∀{sk:List (Int×Addr)}{wr:List (Int×T3)},qN H sk wr->wr.map (·.1)=sk.map (·.1)
 | _,_,.nil=>rfl
 | _,_,.cons ⟨h,_⟩ r=>by rw [aN,aN,qN.keysE r,h]
def gz:Sp:=λvs H Q _=>∃(L b sd:Addr) (c:ScN) (wr:List (Int×T3)),vs=[.ref b,.ref sd]/\jM L H b/\ScAt H sd c/\ScOk b c/\qN H c.sk wr/\c.ws.length<=6 /\
 ∀(s2:Addr) (c2:ScN) (wr2:List (Int×T3)) (H':Hp),jM L H' b->Ext b H H'->ScAt H' s2 c2->ScOk b c2->qN H' c2.sk wr2->c2.rs=c.rs->c2.ws=c.ws->c2.lds.map (·.2)=c.lds.map (·.2)->(∀z,y6 (qK wr c.ts z) (qK wr2 c2.ts z))->(∀a,c2.D a->H a=none)->Q (.ref s2) H'
theorem jU:FnScope ["_law_box_here","_law_scene_here","_law_pick","_law_years","_law_row","_law_more","_law_new"] ["_law_box_here","_law_scene_here"] (j8 zC):=by walk_at "s"
theorem Qs {t:T3}(h:good t=true):0<=t.1/\t.1<=100/\0<=t.2.1/\t.2.1<=9/\0<=t.2.2/\t.2.2<=9:=of_decide_eq_true h
theorem Z3 {f:Addr}{fd:FuncData}(nb:Nb2 mg) (c_law_take:Cal P w K mg base 2 "_law_take" ["_law_box_here","_law_size"] xk) (c_law_scene_copy:Cal P w K mg base 1 "_law_scene_copy" ["_law_scene_here"] ZU)
  (F:Fun K "_law_richer" "_law_richer" zC f fd):FnOk P w K mg base CX0 3 f fd ["_law_box_here","_law_scene_here"] gz:=by
 refine F.ok jU (λvs H Q E h=>?_) (λcdv A outer s H vs Q E hr h=>?_)
 ·obtain ⟨L,b,sd,c,wr,rfl,_⟩:=h
  rfl
 ·obtain ⟨L,b,sd,c,wr,rfl,B,S,O,hw,hw6,k⟩:=h
  have wgood:=hw.good S.sk
  have hwk:=hw.keysE
  have hwl:wr.length=c.sk.length:=by rw [<- af (f:=(·.1)),hwk,af]
  have k3:=O.k3
  have t1:=O.t1
  have t2:=O.t2
  have hyl:c.ys.length=c.ts.length:=b8 S.r3
  refine ⟨_,(j6 (jy 1 jU.nd (jd c_law_scene_copy (hr.mono ⋯) rfl (j0 (pv 1) j2)))
   (j6 (jy 2 jU.nd (jd c_law_take (hr.mono ⋯) rfl (j0 (pv 0) (j0 (jo jR (jg Xv rfl nb.b_len aS (j0 (jB (jG hr) (pv 1) jt (λ_ _=>rfl)) j2)) (jg (jf K) rfl nb.b_len aS (j0 (jB (jG hr) (pv 1) jt (λ_ _=>rfl)) j2))) j2))))
   (j6 (jy 3 jU.nd (jP (Qb K rfl) rfl nb.b_list c6 (j0 (jB (jG hr) (pv 1) jt (λ_ _=>rfl)) j2)))
   (j6 (jy 4 jU.nd (jq (ja K) (jB (jG hr) (pv 1) jt (λ_ _=>rfl)) (jo xp (pv 2) (jg (jf K) rfl nb.b_len aS (j0 (jB (jG hr) (pv 1) jt (λ_ _=>rfl)) j2))) (λ_ _=>rfl)))
   (yX (qt (jK vx (pv 2) (jg (jf K) rfl nb.b_len aS (j0 (pv 3) j2)) (qm _)) (j9 (jy 4 jU.nd (jB (jG hr) (jB (jG hr) (pv 1) jt (λ_ _=>rfl)) (jq (ja K) (pv 3) (pv 2) (λ_ _=>rfl)) (λ_ _=>rfl)))) jI)
   (j6 (jy 5 jU.nd (jd c_law_take (hr.mono ⋯) rfl (j0 (pv 0) (j0 j7 j2))))
   (j6 (jy 6 jU.nd (zN (j0 (jq (xu K) (pv 4) j7 (λ_ _=>rfl)) (j0 (jg (yi rfl) rfl nb.b_min pI (j0 j7 (j0 (jo jR (jq (xu K) (pv 4) j7 (λ_ _=>rfl)) (pv 5)) j2))) (j0 (jg (yj rfl) rfl nb.b_max nH (j0 j7 (j0 (jo jR (jo zH (jq (xu K) (pv 4) j7 (λ_ _=>rfl)) j7) (pv 5)) j2))) j2)))))
   (j6 (qt (jK vx (pv 2) (jg (jf K) rfl nb.b_len aS (j0 (pv 3) j2)) (qm _)) (j9 (xx (jG hr) (jB (jG hr) (pv 1) jt (λ_ _=>rfl)) (jq (ja K) (pv 3) (pv 2) (λ_ _=>rfl)) (pv 6) rfl)) (j9 (zr (pv 6) (uS (jB (jG hr) (pv 1) jt (λ_ _=>rfl)) (jo xp (pv 2) (jg (jf K) rfl nb.b_len aS (j0 (jB (jG hr) (pv 1) jt (λ_ _=>rfl)) j2))) y7))))
   (j9 (jn (pv 1))))))))))),?_⟩
  left
  refine ⟨sd,c,rfl,S,by rw [O.ldl];omega,λs2 q2 g2 l2 as H1 s20 q20 g20 l20 as0 nd ng ql al hs hq hg hl hv ns sg s1=>?_⟩
  have S':=S.same s1
  obtain ⟨lds,elds⟩:∃lds,lds=as.zip (c.lds.map (·.2)):=⟨_,rfl⟩
  have hll:lds.length=c.lds.length:=by rw [elds,List.length_zip,af];omega
  have e1:lds.map (·.1)=as:=by rw [elds,List.map_fst_zip (by rw [af];omega)]
  have e2:lds.map (·.2)=c.lds.map (·.2):=by rw [elds,iX (by rw [af];omega)]
  have e3:lds.map (λx=>V.ref x.1)=as.map V.ref:=by rw [<- e1,bF];rfl
  have hld:∀x∈lds,H1 x.1=some (.dK (x.2.map kvI))/\∃y∈c.lds,y.2=x.2:=λx hx=>by
   obtain ⟨i,hi,ex⟩:=List.mem_iff_getElem.mp hx
   have h1:lds[i]? = some x:=by rw [aa hi,ex]
   have h2:as[i]? = some x.1:=by rw [<- e1,au,h1];rfl
   obtain ⟨y,hy,h3⟩:=hv i x.1 h2
   have h4:(c.lds.map (·.2))[i]? = some x.2:=by rw [<- e2,au,h1];rfl
   rw [au,hy] at h4
   have h4:=aQ h4
   exact ⟨by rw [<- h4];exact h3,y,av hy,h4⟩
  have S1:ScAt H1 s2 { c with q:=q2,sg:=g2,ll:=l2,lds:=lds }:=⟨hs,S'.p,S'.rv,hq,S'.r3,S'.gl,S'.gi,(by show H1 l2=some (.lst (lds.map λx=>V.ref x.1));rw [e3];exact hl),.inl hg,S'.sk,λx hx=>.inl (hld x hx).1⟩
  have O1:ScOk b { c with q:=q2,sg:=g2,ll:=l2,lds:=lds }:=⟨O.gr,O.l1,O.l8,O.t1,O.t2,O.tg,O.ro,hll.trans O.ldl,(by show (lds.map (·.1)).Nodup;rw [e1];exact nd),(λx hx z=>ng (by have z:x.1=g2:=z;rw [<- z,<- e1];exact bp hx)),O.pb,B.ne q20,O.gb,B.ne l20,O.zb,O.k1,O.k2,O.k3,(λx hx=>by obtain ⟨_,y,hy,e⟩:=hld x hx;rw [<- e];exact O.m1 y hy),(λx hx=>by obtain ⟨_,y,hy,e⟩:=hld x hx;rw [<- e];exact O.m2 y hy),(λx hx=>by obtain ⟨_,y,hy,e⟩:=hld x hx;rw [<- e];exact O.m3 y hy)⟩
  have hD:∀a,(a=g2\/∃x∈lds,x.1=a)->H a=none:=λa ha=>by
   rcases ha with rfl | ⟨x,hx,rfl⟩
   ·exact g20
   ·exact as0 _ (by rw [<- e1];exact bp hx)
  have B1:=B.same s1
  have g2b:=B.ne g20
  have q2b:=B.ne q20
  have hw1:=hw.keep (ji.same s1)
  have dgr:∀{H':Hp},H' s2=some (.dK (scK c.p q2 g2 c.gl l2))->qL H' s2 (.str "rows") (some (.ref q2)):=λh=>by rw [<- kE c.p q2 g2 c.gl l2];exact qL.k (k:=.inr "rows") h
  have dgs:∀{H':Hp},H' s2=some (.dK (scK c.p q2 g2 c.gl l2))->qL H' s2 (.str "single") (some (.ref g2)):=λh=>by rw [<- zv c.p q2 g2 c.gl l2];exact qL.k (k:=.inr "single") h
  left
  refine ⟨s2,.ref g2,rfl,dgs hs,?_⟩
  left
  refine ⟨g2,_,rfl,.inl hg,?_⟩
  rw [af]
  left
  refine ⟨s2,.ref q2,rfl,dgr hs,?_⟩
  left
  refine ⟨q2,_,rfl,.inl (SqL.of hq),?_⟩
  rw [hyl]
  left
  refine ⟨L,b,_,rfl,B1,⟨(),()⟩,λpk H2 pk0 pk1 B2 X2=>?_⟩
  have S2:=S1.ext O1 B1 X2
  have hg2:=X2 _ _ hg g2b
  have hq2:=X2 _ _ hq q2b
  have hw2:=hw1.keep (jX B1 X2)
  have x02:Ext b H H2:=λa o h n=>X2 _ _ (s1 _ _ h) n
  clear S1 B1 hw1 X2 hq hg hl hv hs S'
  left
  refine ⟨s2,.ref g2,rfl,dgs S2.sd,?_⟩
  left
  refine ⟨g2,_,c.sk.map (·.1),rfl,.inl hg2,by rw [bF,bF];rfl,by rw [af];omega,λyl H3 hyl3 hyl33 s3=>?_⟩
  have S3:=S2.same s3
  have hg3:=s3 _ _ hg2
  have hq3:=s3 _ _ hq2
  have hw3:=hw2.keep (ji.same s3)
  have B3:=B2.same s3
  have x03:Ext b H H3:=x02.trans (Ext.of_same s3)
  have ylb:yl≠b:=B2.ne hyl3
  clear S2 hg2 hq2 hw2 B2 x02
  obtain ⟨j,ej⟩:∃j:Nat,pk % (c.ts.length:Int)=(j:Int):=⟨(pk % (c.ts.length:Int)).toNat,by have:=di pk (show (c.ts.length:Int)≠0 by omega);omega⟩
  have hjl:j<c.ts.length:=by have:=cG pk (show 0<(c.ts.length:Int) by omega);omega
  obtain ⟨tj,htj⟩:∃tj,c.ts[j]? = some tj:=⟨_,aa hjl⟩
  obtain ⟨q,hq',rj,erj,hrj⟩:=Paired.get S3.r3 (aa (show j<c.ys.length by omega))
  rw [htj] at hq'
  cases hq'
  have gj:good tj=true:=List.all_eq_true.mp O.tg tj (av htj)
  left
  refine ⟨s2,.ref q2,rfl,dgr S3.sd,?_⟩
  left
  refine ⟨s2,.ref q2,rfl,dgr S3.sd,?_⟩
  left
  refine ⟨q2,_,rfl,.inl (SqL.of hq3),?_⟩
  rw [hyl]
  left
  refine ⟨_,_,pk % (c.ts.length:Int),_,rfl,rfl,SqL.of hq3,xl (v:=V.ref rj) () (by rw [ej,bg,aa (show j<c.ys.length by omega),erj]),?_⟩
  left
  refine ⟨λσ H4=>∃(r:Addr) (t:T3),σ=[some (.ref b),some (.ref s2),some (.int pk),some (.ref yl),some (.ref r),none,none]/\H4=H3/\H3 r=some (zo t)/\good t=true/\(pk<(c.sk.length:Int)->∃q,wr[pk.toNat]? = some q/\q.2=t)/\(¬pk<(c.sk.length:Int)->t=tj),?_,?_⟩
  ·left
   refine ⟨yl,_,rfl,.inl (SqL.of hyl33),?_⟩
   rw [af,af]
   left
   refine xg (λz=>?_) (λz=>?_)
   ·have hi:pk.toNat<c.sk.length:=()
    obtain ⟨zk,hzk⟩:∃zk,c.sk[pk.toNat]? = some zk:=⟨_,aa hi⟩
    obtain ⟨q,hqw,e,hzq⟩:=Paired.get hw3 hzk
    left
    refine ⟨s2,.ref g2,rfl,dgs S3.sd,?_⟩
    left
    refine ⟨_,_,_,_,rfl,rfl,SqL.of hyl33,xl (v:=V.int zk.1) pk0 (by rw [au,au,hzk];rfl),?_⟩
    refine ⟨g2,.ref zk.2,rfl,by rw [<- vJ O.k1 (av hzk)];exact qL.k (k:=.inl zk.1) hg3,?_⟩
    left
    exact ⟨zk.2,q.2,rfl,rfl,hzq,wgood q (av hqw),λ_=>⟨q,hqw,rfl⟩,λn=>absurd z n⟩
   ·left
    exact ⟨rj,tj,rfl,rfl,hrj,gj,λn=>absurd n z,λ_=>rfl⟩
  rintro σ H4 ⟨r,t,rfl,rfl,hr3,gt,hA,hB⟩
  have gp:=Qs gt
  left
  refine ⟨L,b,_,rfl,B3,⟨⋯,⋯⟩,λmo H5 mo0 mo1 B5 X5=>?_⟩
  have S5:=S3.ext O1 B3 X5
  have hg5:=X5 _ _ hg3 g2b
  have hq5:=X5 _ _ hq3 q2b
  have hw5:=hw3.keep (jX B3 X5)
  have hr5:H5 r=some (.tup [.int t.1,.int t.2.1,.int t.2.2]):=X5 _ _ hr3 (B3.ne_tup hr3)
  have hyl5:=X5 _ _ hyl33 ylb
  have x05:Ext b H H5:=x03.trans X5
  clear S3 hg3 hq3 hw3 hr3 hyl33 x03 X5 B3 hrj
  left
  refine ⟨_,_,rfl,?_⟩
  left
  refine ⟨_,_,rfl,?_⟩
  left
  refine ⟨by show 3<=sizeLine;decide,λnt H6 hnt hnt6 s6=>?_⟩
  obtain ⟨u,eu⟩:∃u:T3,u=(t.1,(if t.2.1+mo<9 then t.2.1+mo else 9),(if t.2.2-1+mo > 0 then t.2.2-1+mo else 0)):=⟨_,rfl⟩
  have hnt6:H6 nt=some (zo u):=by rw [eu];exact hnt6
  have ru:y6 t u:=by
   rw [eu]
   refine ⟨rfl,?_,?_⟩
   ·show t.2.1<=if t.2.1+mo<9 then t.2.1+mo else 9
    split <;> omega
   ·show (if t.2.2-1+mo > 0 then t.2.2-1+mo else 0)<=t.2.2
    split <;> omega
  have gu:good u=true:=by
   rw [eu]
   refine decide_eq_true ⟨gp.1,gp.2.1,?_,?_,?_,?_⟩
   ·show 0<=if t.2.1+mo<9 then t.2.1+mo else 9
    split <;> omega
   ·show (if t.2.1+mo<9 then t.2.1+mo else 9)<=9
    split <;> omega
   ·show 0<=if t.2.2-1+mo > 0 then t.2.2-1+mo else 0
    split <;> omega
   ·show (if t.2.2-1+mo > 0 then t.2.2-1+mo else 0)<=9
    split <;> omega
  clear eu gp gt
  have S6:=S5.same s6
  have hg6:=s6 _ _ hg5
  have hq6:=s6 _ _ hq5
  have hw6':=hw5.keep (ji.same s6)
  have hyl6:=s6 _ _ hyl5
  have B6:=B5.same s6
  have x06:Ext b H H6:=x05.trans (Ext.of_same s6)
  clear S5 hg5 hq5 hw5 hr5 hyl5 x05 B5
  left
  refine ⟨yl,_,rfl,.inl (SqL.of hyl6),?_⟩
  rw [af,af]
  left
  refine xg (λz=>?_) (λz=>?_)
  ·have hi:pk.toNat<c.sk.length:=()
   obtain ⟨zk,hzk⟩:∃zk,c.sk[pk.toNat]? = some zk:=⟨_,aa hi⟩
   obtain ⟨q,hqw,eqt⟩:=hA z
   obtain ⟨q',hqw',e,_⟩:=Paired.get hw6' hzk
   rw [hqw] at hqw'
   cases hqw'
   have hin:zk.1∈c.sk.map (·.1):=bp (av hzk)
   have hinw:zk.1∈wr.map (·.1):=by rw [hwk];exact hin
   left
   refine ⟨s2,.ref g2,rfl,dgs S6.sd,?_⟩
   left
   refine ⟨_,_,_,_,rfl,rfl,SqL.of hyl6,xl (v:=V.int zk.1) pk0 (by rw [au,au,hzk];rfl),?_⟩
   refine ⟨g2,_,rfl,yZ.k (k:=.inl zk.1) hg6 (by rw [af];exact jc ()),?_⟩
   have ep:qc (c.sk.map kvA) (.inl zk.1) (.ref nt)=(qy c.sk zk.1 nt).map kvA:=vz V.ref c.sk zk.1 nt
   rw [ep]
   have nG:∀{a:Addr} {o:HO},H6 a=some o->(∀kvs,o≠.dK kvs)->(upd H6 g2 (.dK ((qy c.sk zk.1 nt).map kvA))) a=some o:=λh n=>by rw [j5 (jh h hg6 (n _))];exact h
   left
   refine k s2 { c with q:=q2,sg:=g2,ll:=l2,lds:=lds,sk:=qy c.sk zk.1 nt } (qy wr zk.1 u) _ (B6.put g2b (λw=>by
    obtain ⟨_,_,_,_,_,_,_,hL,_⟩:=B6
    rw [<- w,hg6] at hL
    cases hL)) (λa o h n=>by rw [j5 (j1 h g20)];exact x06 a o h n) ?_ ?_ ?_ rfl rfl e2 (λy=>?_) hD
   ·refine ⟨by rw [j5 sg];exact S6.sd,nG S6.p (by walk_at "w"),S6.rv.keep λ_ _ h=>nG h (by walk_at "w"),nG S6.q (by walk_at "w"),S6.r3.imp λ_ _ h=>nG h (by walk_at "w"),nG S6.gl (by walk_at "w"),pmM S6.gi λv hv w ⟨a,ea,q⟩=>⟨a,ea,nG q (by walk_at "w")⟩,nG S6.ll (by walk_at "w"),.inl j4,λy hy=>?_,λx hx=>?_⟩
    ·rcases yc hy with w | w
     ·obtain ⟨v,hv,g⟩:=S6.sk _ w
      exact ⟨v,nG hv (by walk_at "w"),g⟩
     ·subst w
      exact ⟨u,nG hnt6 (by walk_at "w"),gu⟩
    ·rcases S6.ld x hx with w | ⟨o,w⟩
     ·exact .inl (by rw [j5 (O1.ns x hx)];exact w)
     ·exact .inr ⟨o,nG w (by walk_at "w")⟩
   ·refine ⟨O1.gr,O1.l1,O1.l8,O1.t1,O1.t2,O1.tg,O1.ro,O1.ldl,O1.nd,O1.ns,O1.pb,O1.qb,O1.gb,O1.lb,O1.zb,yA O.k1,λy hy=>?_,?_,O1.m1,O1.m2,O1.m3⟩
    ·rcases yc hy with w | w
     ·exact O.k2 y w
     ·subst w
      exact O.k2 zk (av hzk)
    ·show (qy c.sk zk.1 nt).length<=10
     rw [ur hin,af]
     exact k3
   ·have hx:=qN.put (k:=zk.1) hw6' hnt6
    rw [<- ur hin,<- ur hinw] at hx
    exact hx.keep λa xs h=>nG h (by walk_at "w")
   ·have e':zk.1=q.1:=e
    rw [e']
    exact XY (by rw [hwk];exact O.k1) hqw (eqt ▸ ru) y
  ·have:=hB z
   subst this
   left
   refine ⟨s2,.ref q2,rfl,dgr S6.sd,?_⟩
   left
   refine ⟨s2,.ref q2,rfl,dgr S6.sd,?_⟩
   left
   refine ⟨q2,_,rfl,.inl (SqL.of hq6),?_⟩
   rw [hyl]
   left
   refine ⟨q2,c.ys,pk % (c.ts.length:Int),j,rfl,rfl,hq6,?_,?_⟩
   ·rw [ej]
    unfold ixN
    rw [if_pos (),if_pos (),bg]
   have nQ:∀{a:Addr} {o:HO},H6 a=some o->a≠q2->(upd H6 q2 (.lst (c.ys.set j (.ref nt)))) a=some o:=λh n=>by rw [j5 n];exact h
   have nT:∀{a:Addr} {o:HO},H6 a=some o->(∀xs,o≠.lst xs)->a≠q2:=λh n=>jh h hq6 (n _)
   have old:∀{a:Addr} {o:HO},H a=some o->a≠q2:=λh=>j1 h q20
   left
   refine k s2 { c with q:=q2,sg:=g2,ll:=l2,lds:=lds,ys:=c.ys.set j (.ref nt),ts:=c.ts.set j u } wr _ (B6.put q2b (B.neL q20)) (λa o h n=>by rw [j5 (old h)];exact x06 a o h n) ?_ ?_ ?_ rfl rfl e2 (λy=>ZM htj ru y) hD
   ·refine ⟨nQ S6.sd (nT S6.sd (by walk_at "w")),nQ S6.p (old S.p),S6.rv.keep λ_ _ h=>nQ h (nT h (by walk_at "w")),j4,qg.setV (S6.r3.imp λ_ _ h=>nQ h (nT h (by walk_at "w"))) (nQ hnt6 (nT hnt6 (by walk_at "w"))),nQ S6.gl (old S.gl),?_,nQ S6.ll ql.symm,.inl (nQ hg6 (nT hg6 (by walk_at "w"))),λy hy=>?_,λx hx=>?_⟩
    ·refine pmM S6.gi λv hv w ⟨a,ea,q⟩=>⟨a,ea,nQ q ?_⟩
     subst ea
     obtain ⟨i,hi,ei⟩:=List.mem_iff_getElem.mp hv
     obtain ⟨_,_,a',ea',h'⟩:=Paired.get S.gi (aa hi)
     have:a=a':=V.ref.inj (ei.symm.trans ea')
     exact old (this ▸ h')
    ·obtain ⟨v,hv,g⟩:=S6.sk _ hy
     exact ⟨v,nQ hv (nT hv (by walk_at "w")),g⟩
    ·rcases S6.ld x hx with w | ⟨o,w⟩
     ·exact .inl (nQ w (nT w (by walk_at "w")))
     ·exact .inr ⟨o,nQ w (nT w (by walk_at "w"))⟩
   ·refine ⟨O1.gr,O1.l1,O1.l8,(by show 1<=(c.ts.set j u).length;rw [dh];exact t1),(by show (c.ts.set j u).length<=12;rw [dh];exact t2),?_,O1.ro,O1.ldl,O1.nd,O1.ns,O1.pb,O1.qb,O1.gb,O1.lb,O1.zb,O1.k1,O1.k2,O1.k3,O1.m1,O1.m2,O1.m3⟩
    show (c.ts.set j u).all good=true
    rw [bN]
    intro x hx
    rcases List.mem_or_eq_of_mem_set hx with w | w
    ·exact List.all_eq_true.mp O.tg x w
    ·rw [w];exact gu
   ·exact hw6'.keep λa xs h=>nQ h (nT h (by walk_at "w"))
theorem gA {t u:T3}(h:y6 t u):∀{d e gd:List Int},d.length=e.length->(∀i,d.getD i 0<=e.getD i 0)->∀i,(bX (· + ·) d (zn t d gd)).getD i 0<=(bX (· + ·) e (zn u e gd)).getD i 0
 | [],[],gd,_,_,i=>dH _
 | [],_::_,gd,hl,_,i=>by cases hl
 | _::_,[],gd,hl,_,i=>by cases hl
 | x::d,y::e,[],_,_,i=>by
  show ([]:List Int).getD i 0<=([]:List Int).getD i 0
  exact dH _
 | x::d,y::e,g::gd,hl,hd,i=>by
  have h0:x<=y:=hd 0
  have hc:=h.chg g
  have ih:=gA h (gd:=gd) (Nat.succ.inj hl) λj=>hd (j+1)
  match i with
  | 0 =>
   show x+(if chg t g > -x then chg t g else -x)<=y+(if chg u g > -y then chg u g else -y)
   split <;> split <;> omega
  | i+1=>exact ih i
theorem Qn {s:Nat}{d e:List Int}(hl:d.length=e.length) (hd:∀i,d.getD i 0<=e.getD i 0) (i:Nat):(jC s d).getD i 0<=(jC s e).getD i 0:=by
 unfold jC
 rw [ak,ak,eC,eC,bD]
 by_cases z:i<s
 ·rw [if_pos z,if_pos z]
  exact dH _
 ·rw [if_neg z,if_neg z,hl,eZ,eZ]
  by_cases q:i-s<e.length-s
  ·rw [if_pos q,if_pos q,<- ak,<- ak]
   exact hd _
  ·rw [if_neg q,if_neg q]
   exact dH _
theorem JK {ns:List (Int×Int)}{gd:List Int}{wr wr2:List (Int×T3)}{ts ts2:List T3}(h:∀z,y6 (qK wr ts z) (qK wr2 ts2 z)) (fst:Int):∀i p,(xG ns gd wr ts fst i).getD p 0<=(xG ns gd wr2 ts2 fst i).getD p 0
 | 0,p=>dH _
 | i+1,p=>by
  have ih:=JK (ns:=ns) (gd:=gd) h fst i
  have l1:=qv ns gd wr ts fst i
  have l2:=qv ns gd wr2 ts2 fst i
  have hs:=uK ns gd.length (fst+(i:Int))
  show (bX (· + ·) (jC _ _) (zn _ (jC _ _) gd)).getD p 0<=(bX (· + ·) (jC _ _) (zn _ (jC _ _) gd)).getD p 0
  exact gA (h _) (by rw [xT (),xT (),l1,l2]) (λj=>Qn (l1.trans l2.symm) ih j) p
theorem Zi {d e:List Int}(hl:d.length=e.length) (hd:∀i,d.getD i 0<=e.getD i 0) {x:Int}(h:(uq d).getLast? = some x):∃y,(uq e).getLast? = some y/\x<=y:=by
 have hx:x∈uq d:=List.mem_of_getLast? h
 have hxe:x∈uq e:=by
  unfold uq at hx ⊢
  obtain ⟨p,hp,rfl⟩:=List.mem_map.mp hx
  obtain ⟨h1,h2⟩:=List.mem_filter.mp hp
  refine List.mem_map.mpr ⟨p,List.mem_filter.mpr ⟨by rw [<- hl];exact h1,?_⟩,rfl⟩
  have h3:=of_decide_eq_true h2
  have:=hd p
  exact decide_eq_true ()
 have ne:uq e≠[]:=λz=>by rw [z] at hxe;cases hxe
 refine ⟨_,fX ne,?_⟩
 have e1:=i7 ne
 have hs:=ub e
 rw [<- e1] at hs hxe
 rcases List.mem_append.mp hxe with z | z
 ·have:=(List.pairwise_append.mp hs).2.2 x z _ (List.mem_singleton.mpr rfl)
  omega
 ·rw [List.mem_singleton.mp z]
  exact dH _
theorem Y2 {v a b:Int}(h0:0<=v) (h1:v<2) (ha:0<=a/\a<=99) (hb:0<=b/\b<10 ^ 40):∃n:Nat,atI [V.int a,V.int b] v=some (V.int (n:Int))/\(n:Int)<=10 ^ 40:=by
 have h:v=0\/v=1:=()
 rcases h with rfl | rfl
 ·exact ⟨a.toNat,by rw [mw ha.1];rfl,()⟩
 ·exact ⟨b.toNat,by rw [mw hb.1];rfl,()⟩
theorem Lw.pt {C L b sd p Pt:Addr}{c:ScN}{g:IceG}{H0 H H':Hp}(W:Lw C L b sd p c g H0 H) (T0:qi H0 Pt) (T:qi H Pt) (f:∀a o,H a=some o->a≠Pt->H' a=some o):Lw C L b sd p c g H0 H':=by
 obtain ⟨ps,hP⟩:=T.ne
 obtain ⟨ps0,hP0⟩:=T0.ne
 refine ⟨?_,W.S.fr T λa o h n=>.inl (f a o h n),W.I.stay W.F (λa o h n=>f a o h λz=>by rw [z,hP0] at n;cases n) (λa xs h=>f _ _ h (jh h hP (by walk_at "z"))),W.O,W.F,W.B0,W.S0⟩
 obtain ⟨ns,a,r,c,d,h1,h2,h3,h4⟩:=W.B
 exact ⟨ns,a,r,c,d,f _ _ h1 (jh h1 hP (by walk_at "z")),h2,f _ _ h3 (jh h3 hP (by walk_at "z")),h4⟩
theorem xQ:FnScope ["_law_script","_law_box_here","_law_scene_here","_law_ice","_law_other","_law_turn","_law_lane","_law_place","_law_year_here","_law_one","_law_two"] ["_law_script"] (j8 vi):=by walk_at "s"
theorem VQ {f C CN CY Pt:Addr}{fd:FuncData}(nb:Nb2 mg)
  (c_law_box:Cal P w K mg base 1 "_law_box" ["_law_script"] (Zu K)) (c_law_take:Cal P w K mg base 2 "_law_take" ["_law_box_here","_law_size"] xk) (c_law_scene:Cal P w K mg base 5 "_law_scene" ["_law_box_here"] QA) (c_law_made:Cal P w K mg base 10 "_law_made" ["_law_scene_here"] (Z9 C Pt)) (c_law_richer:Cal P w K mg base 3 "_law_richer" ["_law_box_here","_law_scene_here"] gz)
  (c_law_spot:Cal P w K mg base 3 "_law_spot" ["_law_box_here","_law_scene_here"] Z7) (c_law_year:Cal P w K mg base 3 "_law_year" ["_law_box_here"] JQ) (c_law_far:Cal P w K mg base 3 "_law_far" ["_law_box_here"] Vd) (c_snout:CalX P w K mg base 6 "snout" ["ice","lane","year"] (hX C CN CY))
  (F:Fun K "law" "law" vi f fd):FnOk P w K mg base CX0 11 f fd ["_law_script"] (JU K Pt):=by
 refine F.ok xQ (λvs H Q E h=>?_) (λcdv A outer s H vs Q E hr h=>?_)
 ·obtain ⟨a,ns,rfl,_⟩:=h
  rfl
 ·obtain ⟨a,ns,rfl,hS,h63,hPt,k⟩:=h
  have T0:qi H Pt:=.inl hPt
  refine ⟨_,(j6 (jy 1 xQ.nd (jd c_law_box (hr.mono ⋯) rfl (j0 (pv 0) j2)))
   (j6 (jy 2 xQ.nd (jd c_law_scene (hr.mono ⋯) rfl (j0 (pv 1) j2)))
   (j6 (jy 3 xQ.nd (jd c_law_made (hr.mono ⋯) rfl (j0 (pv 2) j2)))
   (j6 (jy 4 xQ.nd (jd c_law_made (hr.mono ⋯) rfl (j0 (jd c_law_richer (hr.mono ⋯) rfl (j0 (pv 1) (j0 (pv 2) j2))) j2)))
   (yX (xF bA rfl (qd rfl nb.b_range (j0 j7 j2)) (jb (i:=5) xQ.nd rfl (aU rfl)) (j6 (zr (jd c_law_spot (hr.mono ⋯) rfl (j0 (pv 1) (j0 (pv 2) j2))) (qS (n:=2) K rfl (js (jb (i:=6) xQ.nd rfl (aU rfl)) (js (jb (i:=7) xQ.nd rfl (aU rfl)) qT))))
   (j6 (jy 8 xQ.nd (jq (ja K) (jQ (j0 (jd c_law_year (hr.mono ⋯) rfl (j0 (pv 1) j2)) (j0 (jd c_law_far (hr.mono ⋯) rfl (j0 (pv 1) j2)) j2))) (jd c_law_take (hr.mono ⋯) rfl (j0 (pv 1) (j0 j7 j2))) (λ_ _=>rfl)))
   (j6 (jy 9 xQ.nd (jd c_snout.cal (hr.mono ⋯) rfl (j0 (pv 3) (j0 (pv 6) (j0 (pv 8) j2)))))
   (j6 (jy 10 xQ.nd (jd c_snout.cal (hr.mono ⋯) rfl (j0 (pv 4) (j0 (pv 6) (j0 (pv 8) j2)))))
   (j9 (qt (PW.pt (Zl (jK YY (pv 9) JP (qm _)) (QH (PW.pt (Vi (jK VM (pv 10) JP (qm _)) (ZP (jK vx (pv 10) (pv 9) (qm _)))))))) (j9 (jn Je)) jI)))))))
   (j9 (jn Je))))))),?_⟩
  left
  refine ⟨a,ns,rfl,hS,λL b H1 hb B1 s1=>?_⟩
  have T1:=T0.same s1
  left
  refine ⟨L,b,rfl,B1,λsd H2 c B2 X2 S2 O=>?_⟩
  have T2:=kG B1 X2 T1
  left
  refine ⟨sd,b,c,rfl,S2,O,T2,λp H3 g I3 F3 R3 TT3 er et es ek el ld ny nd=>?_⟩
  have W3:Lw C L b sd p c g H2 H3:=Lw.start S2 O B2 T2 I3 F3 R3
  have kk:Lk c g:=⟨er,et,es,ek,el,ld,ny,nd⟩
  clear I3 R3 F3 er et es ek el ld ny nd
  have hw1:1<=c.ws.length:=by
   rw [O.ro.length]
   exact wP (jS O.gr.ok) O.l1
  have hw6:c.ws.length<=6:=by rw [O.ro.length];exact O.gr.heads
  have hg30:∀w∈c.ws,1<=(je c.rs w).length/\(je c.rs w).length<=30:=λw hw=>⟨wd O.gr O.ro hw,(uf (O.gr.good O.l1 O.l8)).2.2.2 c.ws O.ro w hw⟩
  have hll:g.lds.length=g.slopes.length:=by rw [kk.ll,O.ldl,kk.sl,af]
  have t1:=O.t1
  have t2:=O.t2
  obtain ⟨wr,hwr⟩:=qN.of W3.S.sk
  have wgood:=hwr.good W3.S.sk
  have sgood:=λy=>Jp wgood O.tg t1 y
  left
  refine ⟨L,b,sd,c,wr,rfl,W3.B,W3.S,O,hwr,hw6,λsd2 c2 wr2 H4 B4 X4 S4 O2 hw24 ers ews els hrich hfr=>?_⟩
  have W4:=W3.take B4 X4
  have hw4:=hwr.keep (jX W3.B X4)
  have T4:=kG W3.B X4 TT3
  left
  refine ⟨sd2,b,c2,rfl,S4,O2,T4,λp2 H5 g2 I5 F5 R5 T5 er et es ek el ld ny nd=>?_⟩
  have V5:Lw C L b sd2 p2 c2 g2 H4 H5:=Lw.start S4 O2 B4 T4 I5 F5 R5
  have kk2:Lk c2 g2:=⟨er,et,es,ek,el,ld,ny,nd⟩
  obtain ⟨ps,hP4⟩:=T4.ne
  have f35:∀a o,H3 a=some o->a≠b->a≠Pt->H5 a=some o:=λa o h n1 n2=>by
   rcases R5 a o (X4 _ _ h n1) n2 with z | ⟨m,_⟩
   ·exact z
   ·have:=hfr a m
    rw [h] at this
    cases this
  have bPt:b≠Pt:=by
   obtain ⟨_,_,_,_,_,hb',_⟩:=B4
   exact jh hb' hP4 (by walk_at "z")
  have W5:Lw C L b sd p c g H2 H5:=by
   have X':Ext b H3 (λa=>if a=Pt then H4 a else H5 a):=λa o h n=>by
    by_cases z:a=Pt
    ·show (if a=Pt then H4 a else H5 a)=_
     rw [if_pos z]
     exact X4 _ _ h n
    ·show (if a=Pt then H4 a else H5 a)=_
     rw [if_neg z]
     exact f35 a o h n z
   have eq5:∀a,a≠Pt->(λa=>if a=Pt then H4 a else H5 a:Hp) a=H5 a:=λa z=>if_neg z
   have B':jM L (λa=>if a=Pt then H4 a else H5 a) b:=by
    obtain ⟨ns,x,r,c',d,h1,h2,h3,h4⟩:=V5.B
    obtain ⟨_,_,_,_,_,_,_,h3',_⟩:=B4
    exact ⟨ns,x,r,c',d,(eq5 _ bPt).trans h1,h2,(eq5 _ (jh h3' hP4 (by walk_at "z"))).trans h3,h4⟩
   have T':=kG W3.B X' TT3
   exact (W3.take B' X').pt T2 T' λa o h n=>(eq5 a n).symm.trans h
  have hw5:qN H5 c.sk wr:=by
   refine hw4.keep λa xs h=>?_
   rcases R5 a _ h (jh h hP4 (by walk_at "z")) with z | ⟨_,_,_,e,_⟩
   ·exact z
   ·cases e
  have hw25:qN H5 c2.sk wr2:=by
   refine hw24.keep λa xs h=>?_
   rcases R5 a _ h (jh h hP4 (by walk_at "z")) with z | ⟨_,_,_,e,_⟩
   ·exact z
   ·cases e
  clear W4 hw4 W3 hwr I5 F5 R5 f35 X4 er et es ek el ld ny nd S4 B4 T5 T4 hw24 hfr
  have hll2:g2.lds.length=g2.slopes.length:=by rw [kk2.ll,O2.ldl,kk2.sl,af]
  have wgood2:=hw25.good V5.S.sk
  have sgood2:=λy=>Jp wgood2 O2.tg O2.t1 y
  have t12:=O2.t1
  have t22:=O2.t2
  have snC:∀(p:Addr) (sd:Addr) (c:ScN) (g:IceG) (wr:List (Int×T3)) (H0 H3:Hp) (l:Int) (y:Nat) (wy:List Int) (da:Addr) (dn ms:List (Int×Int)) (Q':VK),Lk c g->(g.lds.length=g.slopes.length)->(∀z,good (qK wr c.ts z)=true)->ScOk b c->Lw C L b sd p c g H0 H3->qN H3 c.sk wr->LaneF c g l wy da dn->ms.Perm dn->(ms.map (·.1)).Pairwise (· <= ·)->(y:Int)<=10 ^ 40->(∀H4,jm H3 H4->Q' (vI (xG ms (je c.rs wy) wr c.ts 0 (y+1))) H4)->hX C CN CY [.ref p,.int l,.int (y:Int)] H3 Q' E0:=λp sd c g wr H0 H3 l y wy da dn ms Q' kk hll sgood O W' hw' LF hp hs y1 kq=>by
   have g30:=LF.g30
   have l0:=LF.l0
   have l1:=LF.l1
   have t1:=O.t1
   have t2:=O.t2
   refine ⟨p,g,l,(y:Int),c.sk,wr,rfl,W'.I,hll,kk.kv,hw',by rw [kk.rows];exact t1,by rw [kk.rows];omega,by rw [kk.rows];exact sgood,(λhb=>absurd hb ()),λ_ _=>⟨λhb=>absurd hb (),λ_ _=>⟨dn,ms,je c.rs wy,LF.at_,hp,hs,LF.sl,LF.g1,(),?_⟩⟩⟩
   rw [kk.rows,bg]
   exact kq
  left
  refine ⟨λσ H9=>True,?_,?_⟩
  ·left
   refine ⟨⋯,⋯,?_⟩
   refine xK (λi σ H6=>∃v5 v6 v7 v8 v9 v10:Option V,σ=[some (.ref a),some (.ref b),some (.ref sd),some (.ref p),some (.ref p2),v5,v6,v7,v8,v9,v10]/\Lw C L b sd p c g H2 H6/\Lw C L b sd2 p2 c2 g2 H4 H6/\qN H6 c.sk wr/\qN H6 c2.sk wr2) ?_ ?_ ?_
   ·exact ⟨_,_,_,_,_,_,rfl,W5,V5,hw5,hw25⟩
   ·clear W5 V5 hw5 hw25
    rintro i σ H6 hi ⟨v5,v6,v7,v8,v9,v10,rfl,W6,V6,hw6',hv6⟩
    left
    refine ⟨L,b,sd,c,rfl,W6.B,W6.S,O,hw1,hw6,hg30,λln n wy t H7 ln0 ln1 hwy n0 n1 B7 X7 ht ht7=>?_⟩
    have W7:=W6.take B7 X7
    have V7:=V6.take B7 X7
    have hw7:=hw6'.keep (jX W6.B X7)
    have hv7:=hv6.keep (jX W6.B X7)
    clear W6 V6 hw6' hv6
    obtain ⟨wy',da,dn,LF⟩:=kk.lane O ln0 ln1
    obtain rfl:wy'=wy:=aQ (LF.way.symm.trans hwy)
    obtain ⟨wy2,da2,dn2,LF2⟩:=kk2.lane O2 ln0 (by rw [ews];exact ln1)
    have hway2:=LF2.way
    rw [ews,LF.way] at hway2
    have hway2:=aQ hway2
    subst hway2
    have edn:dn2=dn:=by
     have h1:(c2.lds.map (·.2))[ln.toNat]? = some dn2:=by rw [au,LF2.cd];rfl
     rw [els,au,LF.cd] at h1
     exact (aQ h1).symm
    subst edn
    obtain ⟨ms,hp,hs⟩:=wn dn2
    left
    refine ⟨t,_,rfl,SqT.of ht7,rfl,?_⟩
    refine ⟨_,_,rfl,_,_,rfl,rfl,?_⟩
    left
    refine ⟨L,b,rfl,W7.B,λy1 H8 y10 y11 B8 X8=>?_⟩
    have W8:=W7.take B8 X8
    have V8:=V7.take B8 X8
    have hw8:=hw7.keep (jX W7.B X8)
    have hv8:=hv7.keep (jX W7.B X8)
    clear W7 V7 hw7 hv7
    left
    refine ⟨L,b,rfl,W8.B,λy2 H9 y20 y21 B9 X9=>?_⟩
    have W9:=W8.take B9 X9
    have V9:=V8.take B9 X9
    have hw9:=hw8.keep (jX W8.B X9)
    have hv9:=hv8.keep (jX W8.B X9)
    clear W8 V8 hw8 hv8
    left
    refine ⟨by show 2<=sizeLine;decide,λyl H10 hyl hyl0 s10=>?_⟩
    left
    refine ⟨L,b,_,rfl,W9.B.same s10,⟨⋯,⋯⟩,λyv H11 yv0 yv1 B11 X11=>?_⟩
    have W11:=(W9.same s10).take B11 X11
    have V11:=(V9.same s10).take B11 X11
    have hw11:=(hw9.keep (ji.same s10)).keep (jX (W9.B.same s10) X11)
    have hv11:=(hv9.keep (ji.same s10)).keep (jX (W9.B.same s10) X11)
    obtain ⟨y,ey,hyD⟩:=Y2 yv0 yv1 ⟨y10,y11⟩ ⟨y20,y21⟩
    refine ⟨_,_,_,_,rfl,rfl,SqL.of (X11 _ _ hyl0 (W9.B.ne hyl)),ey,?_⟩
    clear W9 V9 hw9 hv9 hyl0 ey
    have hmono:=JK (ns:=ms) (gd:=je c.rs wy') hrich 0 (y+1)
    have hdl:(xG ms (je c.rs wy') wr c.ts 0 (y+1)).length=(xG ms (je c.rs wy') wr2 c2.ts 0 (y+1)).length:=by rw [qv,qv]
    left
    simp only [YG,bo]
    refine snC p sd c g wr H2 H11 ln y wy' da dn2 ms _ kk hll sgood O W11 hw11 LF hp hs hyD λH12 s12=>?_
    left
    simp only [YG,bo]
    refine snC p2 sd2 c2 g2 wr2 H4 H12 ln y wy' da2 dn2 ms _ kk2 hll2 sgood2 O2 (V11.same s12) (hv11.keep (ji.same s12)) LF2 hp hs hyD λH13 s13=>?_
    rw [ers]
    generalize xG ms (je c.rs wy') wr c.ts 0 (y+1)=d1 at *
    generalize xG ms (je c.rs wy') wr2 c2.ts 0 (y+1)=d2 at *
    have sA:=s12.trans s13
    have fin:=λ(x1 x2:Option V)=>(⟨_,_,_,_,x1,x2,rfl,W11.same sA,V11.same sA,hw11.keep (ji.same sA),hv11.keep (ji.same sA)⟩:∃v5 v6 v7 v8 v9 v10:Option V,[some (V.ref a),some (.ref b),some (.ref sd),some (.ref p),some (.ref p2),some (.int (0+(i:Int))),some (.int ln),some (.int n),some (.int (y:Int)),x1,x2]=[some (.ref a),some (.ref b),some (.ref sd),some (.ref p),some (.ref p2),v5,v6,v7,v8,v9,v10]/\Lw C L b sd p c g H2 H13/\Lw C L b sd2 p2 c2 g2 H4 H13/\qN H13 c.sk wr/\qN H13 c2.sk wr2)
    cases e1:(uq d1).getLast? with
    | none =>
     have l1:vI d1 = .non:=by unfold vI;rw [e1]
     rw [l1]
     left
     exact fin _ _
    | some x =>
     obtain ⟨y',e2,hxy⟩:=Zi hdl hmono e1
     have l1:vI d1 = .int x:=by unfold vI;rw [e1]
     have l2:vI d2 = .int y':=by unfold vI;rw [e2]
     rw [l1,l2]
     left
     refine xg (λz=>absurd z ()) (λ_=>?_)
     exact fin _ _
   ·rintro σ H9 _
    trivial
  ·rintro σ H9 _
   left
   exact k H9
end
local macro_rules | `(tactic| walk_at "1")=>`(tactic| exact fun _ _ _ _ _ _ _ hl=>bnd1 hl fun _=>rfl)
local macro_rules | `(tactic| walk_at "2")=>`(tactic| exact fun _ _ _ _ _ _ _ hl=>bnd2 hl fun _ _=>rfl)
local macro_rules | `(tactic| walk_at "3")=>`(tactic| exact fun _ _ _ _ _ _ _ hl=>bnd3 hl fun _ _ _=>rfl)
local macro_rules | `(tactic| walk_at "4")=>`(tactic| exact fun _ _ _ _ _ _ _ hl=>bnd4 hl fun _ _ _ _=>rfl)
local macro_rules | `(tactic| walk_at "5")=>`(tactic| exact fun _ _ _ _ _ _ _ hl=>bnd5 hl fun _ _ _ _ _=>rfl)
local macro_rules | `(tactic| walk_at "6")=>`(tactic| exact fun _ _ _ _ _ _ _ hl=>bnd6 hl fun _ _ _ _ _ _=>rfl)
theorem U8 {l:oB}{w:aV}{K:aj}{h:Heap}{mg:Str->Option ag}{fa:Addr}(X:K.In h) (G:h.Ns mainGlobals mg) (hfa:mg "law" = some (.ref fa))
  {CI:Addr}
  {C0:Addr}
  {C1:Addr}
  {C2:Addr}
  {C3:Addr}
  {C4:Addr}
  {C5:Addr}
  {C6:Addr}
  {u0:Tok}
  {u1:Tok}
  {u2:Tok}
  {u3:Tok}
  {u4:Tok}
  {u5:Tok}
  {u6:Tok}
  {u7:Tok}
  {u8:Tok}
  {u9:Tok}
  {u10:Tok}
  (aCI:aP K mainGlobals "Ice" = some (some (.ref CI))) (pgI:eG K CI Str.empty=true) (hdI:ft K CI=true) (poI:iI K CI=true) (saI:bB K (.ref CI) "__setattr__" = some (some (.builtin "object.__setattr__"))) (mkI:lJ K CI=true) (kcI:bJ K (.ref CI)=true)
  (na0:bB K (.ref CI) "valley" = some none)
  (na1:bB K (.ref CI) "cycle" = some none)
  (na2:bB K (.ref CI) "slopes" = some none)
  (na3:bB K (.ref CI) "years" = some none)
  (na4:bB K (.ref CI) "leaps" = some none)
  (a1:gN K "leads_on" yy)
  (a2:gN K "is_reach" zK)
  (a3:gN K "way_down" yP)
  (a4:aP K mainGlobals "lanes" = some (some (.ref f4))) (l4:K.lookup f4=some ⟨oc4,od4,.func (bx "lanes" "lanes" (jL qA) (jF qA) (j8 qA) .none kV4 dc4 pm4 an4 (.ref cL) ct4),sl4⟩) (c4:cx K (.ref cL) "lanes" = true) (k4:bJ K (.ref f4)=true) (hdL:PySem.W.codeHdIn K cL 142=true)
  (a5:gN K "way_of" uQ)
  (a6:gN K "count_places" xm)
  (a7:gN K "fits" kN)
  (a8:gN K "is_valley" xX)
  (a9:gN K "heights" yk)
  (a10:gN K "is_weather" zD)
  (a11:gN K "change" uE)
  (a12:gN K "is_round" zE)
  (a13:gN K "check_round" zt)
  (a14:gN K "check_told" zM)
  (a15:gM K CI "__init__" "Ice.__init__" qq)
  (a16:gM K CI "check_lane" "Ice.check_lane" xf)
  (a17:gM K CI "check_place" "Ice.check_place" qW)
  (a18:gM K CI "length" "Ice.length" zq)
  (a19:gM K CI "height" "Ice.height" zg)
  (a20:gM K CI "sky" "Ice.sky" yD)
  (a21:gM K CI "tell" "Ice.tell" ya)
  (a22:gM K CI "surge" "Ice.surge" zy)
  (a23:gM K CI "surges" "Ice.surges" xy)
  (a24:gN K "check_asked" zm)
  (a25:gN K "course" xh)
  (a26:gN K "year_row" yJ)
  (a27:gN K "lowest_ice" xI)
  (a28:gN K "snout" gk)
  (a29:gN K "_law_box" vV)
  (a30:gN K "_law_mixed" zW)
  (a31:gN K "_law_take" yM)
  (a32:gN K "_law_far" vM)
  (a33:gN K "_law_weather" zi)
  (a34:gN K "_law_round" xW)
  (a35:gN K "_law_ground_drawn" jY)
  (a36:gN K "_law_reaches" qQ)
  (a37:gN K "_law_roads" xA)
  (a38:gN K "_law_ground" zG)
  (a39:gN K "_law_year" yK)
  (a40:gN K "_law_scene" xz)
  (a41:gN K "_law_made" yu)
  (a42:gN K "_law_spot" yH)
  (a43:gN K "_law_scene_copy" qC)
  (a44:gN K "_law_richer" zC)
  (a45:aP K mainGlobals "law" = some (some (.ref f45))) (l45:K.lookup f45=some ⟨oc45,od45,.func (bx "law" "law" (jL vi) (jF vi) (j8 vi) .none kV45 dc45 pm45 an45 cd45 ct45),sl45⟩) (c45:cx K cd45 "law" = true) (k45:bJ K (.ref f45)=true)
  (ec0:gE K "BadValley" C0)
  (ec1:gE K "BadRound" C1)
  (ec2:gE K "NoLane" C2)
  (ec3:gE K "BadYear" C3)
  (ec4:gE K "BadWeather" C4)
  (ec5:gE K "BadSurge" C5)
  (ec6:gE K "NoPlace" C6)
  (z0:aP K mainGlobals "len" = some none)
  (z1:aP K mainGlobals "range" = some none)
  (z2:aP K mainGlobals "isinstance" = some none)
  (z3:aP K mainGlobals "int" = some none)
  (z4:aP K mainGlobals "bool" = some none)
  (z5:aP K mainGlobals "str" = some none)
  (z6:aP K mainGlobals "list" = some none)
  (z7:aP K mainGlobals "tuple" = some none)
  (z8:aP K mainGlobals "min" = some none)
  (z9:aP K mainGlobals "max" = some none)
  (z10:aP K mainGlobals "all" = some none)
  (z11:aP K mainGlobals "zip" = some none)
  (z12:aP K mainGlobals "enumerate" = some none)
  (z13:aP K mainGlobals "sorted" = some none)
  (z14:aP K mainGlobals "sum" = some none)
  (z15:aP K mainGlobals "dict" = some none)
  (q0:aP K mainGlobals "MOST_REACHES" = some (some (.int 8 u0)))
  (q1:aP K mainGlobals "MOST_HEIGHTS" = some (some (.int 12 u1)))
  (q2:aP K mainGlobals "GREATEST_HEIGHT" = some (some (.int 99 u2)))
  (q3:aP K mainGlobals "MOST_LANES" = some (some (.int 6 u3)))
  (q4:aP K mainGlobals "LONGEST_LANE" = some (some (.int 30 u4)))
  (q5:aP K mainGlobals "HIGHEST_LINE" = some (some (.int 100 u5)))
  (q6:aP K mainGlobals "MOST_HANDS" = some (some (.int 9 u6)))
  (q7:aP K mainGlobals "MOST_ROWS" = some (some (.int 12 u7)))
  (q8:aP K mainGlobals "LAST_TOLD" = some (some (.int 99 u8)))
  (q9:aP K mainGlobals "LAST_ASKED" = some (some (.int 10000000000000000000000000000000000000000 u9)))
  (q10:aP K mainGlobals "GREATEST_SURGE" = some (some (.int 9 u10)))
  : ∃fd:FuncData,(∀(s:Shared) (v:ag),oI s fd ⟨[v],[]⟩ [("_law_script",v)])/\∀base:Heap,K.In base->base.Ns mainGlobals mg->Bm mg base->FnOk l.prog w K mg base CX0 11 fa fd ["_law_script"] (JU K 142):=by
 have e:=hfa.symm.trans (bf X G a45)
 cases e
 have nb:Nb2 mg:={ b_len:=b9 X G z0,b_range:=b9 X G z1,b_isinstance:=b9 X G z2,b_int:=b9 X G z3,b_bool:=b9 X G z4,b_str:=b9 X G z5,b_list:=b9 X G z6,b_tuple:=b9 X G z7,b_min:=b9 X G z8,b_max:=b9 X G z9,b_all:=b9 X G z10,b_zip:=b9 X G z11,b_enumerate:=b9 X G z12,b_sorted:=b9 X G z13,b_sum:=b9 X G z14 }
 have b_dict:=b9 X G z15
 have g_MOST_REACHES:=bf X G q0
 have g_MOST_HEIGHTS:=bf X G q1
 have g_GREATEST_HEIGHT:=bf X G q2
 have g_MOST_LANES:=bf X G q3
 have g_LONGEST_LANE:=bf X G q4
 have g_HIGHEST_LINE:=bf X G q5
 have g_MOST_HANDS:=bf X G q6
 have g_MOST_ROWS:=bf X G q7
 have g_LAST_TOLD:=bf X G q8
 have g_LAST_ASKED:=bf X G q9
 have g_GREATEST_SURGE:=bf X G q10
 have e_BadValley:=bf X G ec0.e
 have x_BadValley:=ec0.x
 have e_BadRound:=bf X G ec1.e
 have x_BadRound:=ec1.x
 have e_NoLane:=bf X G ec2.e
 have x_NoLane:=ec2.x
 have e_BadYear:=bf X G ec3.e
 have x_BadYear:=ec3.x
 have e_BadWeather:=bf X G ec4.e
 have x_BadWeather:=ec4.x
 have e_BadSurge:=bf X G ec5.e
 have x_BadSurge:=ec5.x
 have e_NoPlace:=bf X G ec6.e
 have x_NoPlace:=ec6.x
 have cl_Ice:Cls K CI:=⟨pgI,hdI,poI,saI⟩
 have T_Ice:IceC K CI:=⟨cl_Ice,na0,na1,na2,na3,na4⟩
 refine ⟨bx "law" "law" (jL vi) (jF vi) (j8 vi) .none kV45 dc45 pm45 an45 cd45 ct45,λs v=>.of_eq rfl,λbase hKb _ hBm=>?_⟩
 have CH:=PySem.W.codeHd_of_K hKb hdL
 have z:Zt l.prog w K mg base:=⟨X,G⟩
 have c_leads_on:=a1.cal z (by walk_at "2") (Jh)
 have c_is_reach:=a2.cal z (by walk_at "2") (JH nb g_MOST_HEIGHTS g_GREATEST_HEIGHT c_leads_on)
 have c_way_down:=a3.cal z (by walk_at "2") (JA nb)
 have c_lanes:Cal l.prog w K mg base 5 "lanes" ["reaches"] (vj K 142):=Cal.mkC (st:=qA) X G a4 l4 c4 k4 (by walk_at "1") (Za nb c_way_down CH hBm l4 c4)
 have c_way_of:=a5.calX z (by walk_at "2") (Xc nb e_NoLane x_NoLane c_lanes)
 have c_count_places:=a6.cal z (by walk_at "2") (uk nb)
 have c_fits:=a7.cal z (by walk_at "2") (YD nb g_MOST_LANES g_LONGEST_LANE c_count_places)
 have c_is_valley:=a8.cal z (by walk_at "1") (hE nb g_MOST_REACHES c_is_reach c_lanes c_fits)
 have c_heights:=a9.calX z (by walk_at "2") (JS nb c_way_of)
 have c_is_weather:=a10.cal z (by walk_at "1") (ww g_HIGHEST_LINE g_MOST_HANDS)
 have c_change:=a11.cal z (by walk_at "2") (Xj)
 have c_is_round:=a12.cal z (by walk_at "1") (Jc nb.toNb g_MOST_ROWS c_is_weather)
 have c_check_round:=a13.calX z (by walk_at "1") (uH nb e_BadRound x_BadRound c_is_round)
 have c_check_told:=a14.calX z (by walk_at "1") (wu g_LAST_TOLD e_BadYear x_BadYear)
 have c_Ice:=a15.mak z mkI kcI aCI (by walk_at "3") (vK nb T_Ice e_BadValley x_BadValley c_is_valley c_check_round c_lanes c_heights.cal)
 have c_Ice__check_lane:=a16.calX z (by walk_at "2") (yz nb T_Ice e_NoLane x_NoLane)
 have c_Ice__check_place:=a17.calX z (by walk_at "3") (yo nb T_Ice e_NoPlace x_NoPlace cl_Ice c_Ice__check_lane)
 have c_Ice__length:=a18.calX z (by walk_at "2") (w5 nb T_Ice cl_Ice c_Ice__check_lane)
 have c_Ice__height:=a19.calX z (by walk_at "3") (wm nb T_Ice cl_Ice c_Ice__check_place)
 have c_Ice__sky:=a20.cal z (by walk_at "2") (gX nb T_Ice)
 have c_Ice__tell:=a21.calX z (by walk_at "3") (kT nb T_Ice e_BadWeather x_BadWeather c_check_told c_is_weather)
 have c_Ice__surge:=a22.calX z (by walk_at "4") (wx nb T_Ice cl_Ice g_GREATEST_SURGE e_BadSurge x_BadSurge c_Ice__check_lane c_check_told)
 have c_Ice__surges:=a23.calX z (by walk_at "2") (wc nb T_Ice cl_Ice c_Ice__check_lane)
 have c_check_asked:=a24.calX z (by walk_at "1") (uO g_LAST_ASKED e_BadYear x_BadYear)
 have c_course:=a25.calX z (by walk_at "4") (XO nb b_dict cl_Ice c_Ice__surges c_Ice__length c_change c_Ice__sky c_Ice__height)
 have c_year_row:=a26.calX z (by walk_at "3") (Ja nb cl_Ice c_Ice__length c_course)
 have c_lowest_ice:=a27.cal z (by walk_at "1") (wB nb)
 have c_snout:=a28.calX z (by walk_at "3") (Y6 nb cl_Ice c_Ice__check_lane c_check_asked c_year_row c_lowest_ice)
 have c_law_box:=a29.cal z (by walk_at "1") (U4 nb.toNb)
 have c_law_mixed:=a30.cal z (by walk_at "2") (Zg)
 have c_law_take:=a31.cal z (by walk_at "2") (Yo nb.toNb c_law_mixed)
 have c_law_far:=a32.cal z (by walk_at "1") (VX nb c_law_take)
 have c_law_weather:=a33.cal z (by walk_at "1") (JN c_law_take)
 have c_law_round:=a34.cal z (by walk_at "1") (ZK nb.toNb c_law_take c_law_weather)
 have c_law_ground_drawn:=a35.cal z (by walk_at "3") (um nb c_law_take)
 have c_law_reaches:=a36.cal z (by walk_at "1") (Qa nb c_law_take c_law_ground_drawn)
 have c_law_roads:=a37.cal z (by walk_at "1") (ZW nb)
 have c_law_ground:=a38.cal z (by walk_at "2") (Xn)
 have c_law_year:=a39.cal z (by walk_at "1") (Yh c_law_take)
 have c_law_scene:=a40.cal z (by walk_at "1") (Zv nb c_law_take c_law_reaches c_law_round c_law_ground c_law_roads c_law_year c_law_weather)
 have c_law_made:=a41.cal z (by walk_at "1") (YK nb cl_Ice c_Ice c_Ice__tell c_Ice__surge)
 have c_law_spot:=a42.cal z (by walk_at "2") (Yi nb c_law_take)
 have c_law_scene_copy:=a43.cal z (by walk_at "1") (YM nb b_dict)
 have c_law_richer:=a44.cal z (by walk_at "2") (Z3 nb c_law_take c_law_scene_copy)
 exact VQ nb c_law_box c_law_take c_law_scene c_law_made c_law_richer c_law_spot c_law_year c_law_far c_snout (yx (st:=vi) l45 c45 k45)
end K31
end
open PySem PySem.W PyProof.Rows
set_option maxRecDepth 100000 in
set_option maxHeartbeats 0 in
theorem PySem.Challenge.cw_firnfall_k31_whole_more_ice_reaches_no_l_holds : PySem.Challenge.rw_firnfall_k31_whole_more_ice_reaches_no_l.Holds := by
 w_on
 refine holds_law HO.ws λsaid=>?_
 refine holds_open (q:=HO.view) (loose:=HO.loose) (N:=9000) (Xt:=HO.xt) (XP:=XL HO.view [])
  (Yf:=Hook.obs (nM HO.frag.heap_1 HO.asL HO.asE [142])) (Ya:=Hook.val (nM HO.frag.heap_1 HO.asL HO.asE [142])) (YP:=Hook.says (nM HO.frag.heap_1 HO.asL HO.asE [142]))
  HO.left (Hook.of (nM HO.frag.heap_1 HO.asL HO.asE [142])) (Hook.keeps (nM HO.frag.heap_1 HO.asL HO.asE [142]))
  (λs e=>xl_of s (Bool.and_eq_true_iff.mp e).1) XL.keeps rfl rfl rfl
  (λs e=>recFacts_of (Bool.and_eq_true_iff.mp e).2) rfl
  (by first | assumption | decide +kernel) (by decide +kernel) ⟨rfl,rfl,rfl,rfl,rfl,by decide +kernel⟩ ?hw ?hc
 (case hw=>w_witness2)
 k_fill
 refine L2.Yn (l:=PySem.Challenge.rw_firnfall_k31_whole_more_ice_reaches_no_l) 11 144 142 ⟨rfl,⋯,⋯⟩ rfl rfl (λw h Y=>⟨PySem.W.km_in_of Y,PySem.W.km_tabs_of Y 142 (by simp)⟩) (λ_=>by kernel_rfl) (λ_=>by kernel_rfl) ?F
 case F =>
  intro w mg fa h KX G hmg
  refine' K31.U8 KX G hmg ..
  all_goals try first | refine' L2.gN.mk ?_ ?_ ?_ ?_ | refine' L2.gM.mk ?_ ?_ ?_ ?_ ?_ | refine' L2.gE.mk ?_ ?_ ?_
  all_goals try show _=_
  all_goals try k_is
  all_goals kernel_rfl
