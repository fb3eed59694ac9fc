import PyProof.Rows.All
import Wide.All
import OpenK.AllK
import Wide.FinOn
import Lean
import PyProof.EqAt
import PyProof.EqKinds
import PyProof.TupleCall
import PyProof.AttrMissHeap
import KE.KDictOf
import PyProof.Rows.MinMaxN
import PySem.Challenge.RW_firnfall_k28_whole_more_ice_never_lets_o
set_option Elab.async false
set_option linter.all false
set_option maxRecDepth 100000
set_option maxHeartbeats 0
open And renaming intro->ef
open Array renaming length_toList->bI,getElem?_eq_getElem->cN,getElem?_setIfInBounds_ne->eU,getD_eq_getD_getElem?->fI,getElem?_toList->l9,getD->m6,forIn_toList->m9,toList_map->mM,mk->nE
open Bool renaming false_ne_true->aq,and_eq_true->bh,false_eq_true->cn,eq_iff_iff->di,true_and->dr
open False renaming elim->bp
open ForIn renaming forIn->oW
open ForInStep renaming yield->bE
open Int renaming toNat_natCast->bK,emod_lt_of_pos->cp,emod_nonneg->cS,le_refl->cV,zero_add->iS,toNat_of_nonneg->lN,le_of_lt->mG
open List renaming getElem?_eq_getElem->aa,length_map->af,getD_eq_getElem?_getD->ak,getElem?_map->ar,mem_of_getElem?->au,length_append->av,size_toArray->aw,mem_cons_of_mem->az,mem_cons_self->aC,map_append->aE,mem_append_right->aF,map_cons->aH,range->aO,length_singleton->aU,length_take->aW,mem_map_of_mem->b9,length_cons->ba,take_length->bb,Nodup->bj,append_nil->br,map_map->bB,all_eq_true->bG,getElem_mem->bH,length_range->bL,getElem?_append_right->bM,find?_cons_of_neg->bS,drop_eq_getElem_cons->bT,lookup_cons->bZ,take_add_one->c8,reverse->cb,find?_cons_of_pos->cc,getElem?_append_left->cg,length_filter_le->cj,map_congr_left->cD,take_of_length_le->cG,filter_append->cK,length_set->cQ,range_succ->cR,length_drop->d0,getElem_map->d6,lookup->d9,find?_cons->dm,append_assoc->dv,getElem?_set->dw,reverse_reverse->dC,map_nil->dG,cons_ne_nil->dH,any_cons->dM,pairwise_cons->dS,pairwise_singleton->dY,filter->ee,all_map->eP,length_pos_of_mem->eQ,drop_eq_nil_of_le->eR,mem_append_left->fj,length->fm,of_mem_zip->fA,length_nil->fC,filterMap_cons->fD,length_reverse->fG,replicate->fP,nodup_nil->fW,getLastD_cons->fX,reverse_cons->i4,ext_getElem?->i5,flatten_cons->i6,getElem?_replicate->il,map_snd_zip->ip,ext_getElem->iq,filter_cons_of_neg->iu,filter_cons_of_pos->iz,getElem?_set_self->iE,drop_of_length_le->iO,length_replicate->l3,getElem?_set_ne->lg,map_id->lA,getElem?_range->lM,all_cons->lP,sum_cons->lQ,getElem?_drop->lZ,toArray->mC,getElem_take->mF,map_reverse->mO,forIn_cons->n4,take_zero->oq,drop_zero->ou,mem_cons->oF,map_drop->oG,any->pf
open List.Pairwise renaming nil->eN
open List.Perm renaming refl->lz,cons_inv->ma
open Nat renaming le_refl->ao,ne_of_lt->aB,le_trans->aG,zero_le->aJ,lt_of_lt_of_le->aM,lt_of_le_of_lt->bN,lt_succ_of_lt->bW,lt_irrefl->bX,le_of_lt->cT,succ_le_succ->d8,le_succ->dX,ne_of_gt->eF,lt_succ_self->fc,zero_add->iQ,le_of_eq->mi,min_eq_right->mP,not_lt_zero->n6,min_eq_left->ni
open Ne renaming symm->cY
open Option renaming toList_some->fV,getD_none->mL
open Option.some renaming inj->aR
open Or renaming inl->aS,inr->lq
open Prod renaming snd->oX
open PyProof.Rows renaming seqObj->bc,boot_list->bR,callWith_type1->c0,listUpdate_at->cq,boot_tuple->cw,IntsAre->cF,boot_dict->dh,get?_update_seq->dj,seqEpoch_at->dB,slot_tuple_getitem->eS,AllBare->ff,subscriptTail->fg,envOfC->i7,Subscript_->iJ,subscriptTail_builtinR->iK,listItems_at->iP,entry_list_sort->iW,slot_list_sort->lx,size_push'->m7,plain_sorted->mz,entry_sorted->mB,kind_sorted->mX,boot_sorted->mY,list_sort_plain->n5,boot_isinstance->nj,boot_range->nO,SortKind->o8,args_list_sort->oa,failedOf->oh,boot_all->oj,boot_max->om,boot_min->oo,tail_any->oV
open PyProof.Rows.KeyOrd renaming kle_refl->cB,kle_of_klt->eO,kle_trans->fe,kle_antisymm->fF
open PySem renaming Value->ae,wpAny_bind->ah,wpAny->ay,model->aA,starEach->aK,boot_len->aT,wpAny_mono->aV,World->aX,Around->bg,sizeLine_eq->bu,wpAny_loadPart'->bF,wpAny_holding->bO,compareOp->bQ,wpAny_truthy_bool->bU,rawInt->bY,foldedSetIterable->c3,bindArgs->c5,Paired->cf,backTo->ck,wpAny_newObj_type->cv,letOwnedTupleGo->cz,mem_of_lookup->cC,codeAny->cE,wpAny_standAt->cH,wpAny_Call_Name_kw->cJ,importedModules->cO,wpAny_passesOwn->cP,codeAny_mono->cU,sysModules->de,behindInMarks->dq,PyData->du,keywordEach->dz,attributeBase->dJ,wpAny_comprehension_free->dO,wpAny_newList->dP,holding->dQ,assignEach->dR,sliceBounds->dW,wpAny_field->dZ,Builtin->eA,bootBuiltins->eC,standAt->eE,wpAny_pyIter_list->eG,NameKind->eL,binaryOp->fk,wpAny_execs_nil->ft,assign->fz,codeAny_builtin->fB,swapsWith->fJ,noteFrame->fK,backToKw->fN,wpAny_newFunctionEnv_cells->fQ,tupleKind_room_in1->fU,evalPart_none->i8,wpAny_getItem_list_slice->i9,plainId_quiet->ia,wpAny_eqBool_int->ic,tupleKind->ie,wpAny_execs_cons->ig,getMethod->ik,wpAny_call_entry->ir,builtinsNs->iD,wpAny_pyNext_list_item->iF,wpAny_call->iG,Keyword->iH,getItem->iI,codeAny_compStart_list->iM,theTreesLotGoes->iV,wpAny_isTrue_Compare1->iY,wpAny_pyNext_list_end->iZ,wpAny_loadName_local->lh,pyNext->lj,subscripted->lp,wpAny_newFunctionEnv->lr,wpAny_newTuple->ly,wpAny_setField->lB,leaving->lF,callerA->lH,valueAt->lI,wpAny_loadName_cell->lK,evalPart_some->lO,pyIter->lU,wpAny_pyIter_range->lV,Result->lW,call_meets->lX,closureFor->lY,wpAny_rule->m8,getattributeRaised->md,Within->me,wpAny_assign_Name->mf,callWith->mj,seqIndex_neg->mw,codeAny_loop->mx,compTurn->my,wpAny_typeOf->mD,wpAny_pyIter_enum->mE,cellsFrom->mK,IsRangeIter->mR,wpAny_Slice->mU,seqIndex_of->mV,wpAny_noted->mW,atKey->mZ,OsState->nk,BindsTo->nu,newList->nv,Params->nB,wpAny_Name->nM,CmpOp->nN,bindL->nR,bindC->nU,IsPart->nW,typeLookup->nX,compEnvC->nZ,newFunctionEnv->o7,checkCount->o9,rangeSize_one->oz,intBits_le_64->oA,call_list_seq->oB,eval_ListComp->oC,storeName->oH,typeOf->oM,cellOf->oN,stored->oO,GenState->oR,Operator->oU,compPost->oY,Model->ph
open PySem.Around renaming under_plainId->dA,under->mn
open PySem.Builtin.Dict renaming updateFrom->iB
open PySem.Builtin.List renaming listTooLong->dN
open PySem.Builtin.Range renaming rangeSize->ij
open PySem.Builtin.Slice renaming slicePlaces->cM,sliceAdjust->dI,sliceApplied->fS
open PySem.Builtin.Tuple renaming tupleExact->cW
open PySem.Calls renaming evalArgs_plain->fq,Name_function_global->fL,spliced_cons->fO,call_function_entry->fY,callWith_builtin->iL,spliced_nil->mr
open PySem.Code renaming isFrame->mq
open PySem.Data renaming fields->mS,cell->oI
open PySem.EntryCells renaming newEntry->lL
open PySem.Env renaming kindOf->o6
open PySem.F renaming excBase_ValueError->bo,slot_list_append->bz,type_list_append->bA,plainAttrs_list->bC,slot_dict_get->f7,args_dict_get_3->iA,entry_dict_get->iR,slot_list_lt->lu
open PySem.Fin renaming done->og
open PySem.Heap renaming get?_push_of_some->aj,lt_size->ax,get?_push_size->aD,get?_update_ne->bJ,get?_update_other->c7,get?_push_ne->c9,size_update->d5,size_push->eJ,get?_update_self->eY,SameBut->fH,MadeExcOf->lC
open PySem.Heap.DictOf renaming new->nh
open PySem.Heap.IsSliceOf renaming new->fR
open PySem.IsRange renaming new->mT
open PySem.NameKind renaming free->aY,cell->fh
open PySem.Obj renaming mapSeq->aQ,isFreed_of_fields->eZ,mapFields->fi,data_mapFields->fT
open PySem.Paired renaming length->aP,snoc->cu
open PySem.PassesOwn renaming never->bt
open PySem.SeqAt renaming shaped->iN
open PySem.SeqAt.EqAt renaming int_str->lS,str_int->lT
open PySem.Str renaming ofString->ag
open PySem.Value renaming ref->aZ,none->b7,isInt_shape->eB,type->fb,int->ib,bool->iC,str->lE,isStrOf_shape->lJ,float->mQ,isStrOf->ow
open PySem.W renaming Frag->ai,nsIn->aN,mg_none_of->b8,mg_of->bf,fnOf->bw,findIn->bx,keepIn->bD,kia_one->bP,emptyDict->bV,codeIn->c6,instObj->cx,excIn->cI,boot_heap->cZ,callWith_K->df,plainGet->dE,hasDictIn->eI,kitOne->eK,cellsFrom_some->eM,methodCall_KW->eV,plainGet_of->fE,lookIn->fM,methodObj->fZ,plainOver->i0,takerIn->iT,makesIn->iU,namesBound->lR,isFn->mh,kitx_list->ml,kitx_dict->mm,staticsOk->mH,kmHook->mI,handedIn->mJ,OpenLaw->n9,kas_rev->nA,boot_drawn->nH,tabObj->nI,gensDone->nJ,laidKept->nK,funFrames_hide->oi,kas_tail3->oJ,topStub->oK,openSeen->oP,openGood->oQ,openEnds->oS,kas_sort->oZ,kas_item->p0,kat_snds->pe
open PySem.W.Looks renaming of_pure->oE
open PySem.W.OpenLaw renaming row->la
open StateT renaming run_pure->iX
open Sum renaming inr->aI,inl->cX
open Sum.inl renaming inj->dU
open True renaming intro->cA
open PySem PySem.Spec PyProof.Rows
local macro_rules | `(∅)=>`(by omega)
local macro_rules | `(⋯)=>`(by decide)
section
namespace HO
open PySem PySem.W PyProof.Rows PySem.Calls PySem.Spec
def view:Program:={ PySem.Challenge.pw_firnfall_k28_whole_more_ice_never_lets_o with main:={ PySem.Challenge.pw_firnfall_k28_whole_more_ice_never_lets_o.main with body:=(PySem.Challenge.pw_firnfall_k28_whole_more_ice_never_lets_o.main.body).drop 68 } }
def loose:List Str:=[ag "_wall",ag "FirnError",ag "BadValley",ag "BadRound",ag "BadWeather",ag "BadYear",ag "BadSurge",ag "NoLane",ag "NoPlace",ag "MOST_REACHES",ag "MOST_HEIGHTS",ag "GREATEST_HEIGHT",ag "MOST_LANES",ag "LONGEST_LANE",ag "is_valley",ag "is_reach",ag "leads_on",ag "fits",ag "lanes",ag "way_down",ag "way_of",ag "count_places",ag "heights",ag "HIGHEST_LINE",ag "MOST_HANDS",ag "MOST_ROWS",ag "is_weather",ag "is_round",ag "change",ag "LAST_TOLD",ag "LAST_ASKED",ag "GREATEST_SURGE",ag "check_told",ag "check_asked",ag "check_round",ag "Ice",ag "ride_by",ag "earliest",ag "ridden",ag "span",ag "life",ag "parted",ag "way",ag "rest",ag "_law_box",ag "_law_mixed",ag "_law_take",ag "_law_far",ag "_law_weather",ag "_law_round",ag "_law_ground_drawn",ag "_law_reaches",ag "_law_roads",ag "_law_ground",ag "_law_year",ag "_law_scene",ag "_law_made",ag "_law_spot",ag "_law_scene_copy",ag "_law_richer"]
section
local macro_rules | `(tactic| o_head $H)=>`(tactic| (have hook:=$H;assumption))
theorem frag (hyp:(la PySem.Challenge.rw_firnfall_k28_whole_more_ice_never_lets_o).Holds):(la PySem.Challenge.rw_firnfall_k28_whole_more_ice_never_lets_o).Holds:=by
 k_head
end
def asL:List Addr:=[2,3,15,17,18,20,21,22,29,30,31,32,35,42,43,44,47,54,55,56,59,66,67,68,71,78,79,80,83,90,91,92,95,102,103,104,107,114,115,116,119,122,123,124,127,128,129,131,132,134,135,136,139,140,141,144,145,146,148,149,151,152,153,155,156,158,159,160,163,164,165,168,169,170,172,173,175,176,177,180,181,182,184,185,187,188,189,191,192,194,195,196,198,199,201,202,203,205,206,208,209,217,220,221,222,224,225,227,228,229,231,232,234,235,236,238,239,241,242,243,245,246,248,249,250,252,253,255,256,257,259,260,262,263,264,266,267,269,270,271,273,274,276,277,278,280,281,283,284,285,287,288,290,291,292,294,295,297,298,299,301,302,304,305,306,309,310,311,314,315,316,318,319,321,322,323,325,326,328,329,330,332,333,335,336,337,338,339,340,341,344,347,348,349,351,352,354,355,356,358,359,361,362,363,365,366,368,369,370,372,373,375,376,377,379,380,382,383,384,386,387,389,390,391,393,394,396,397,398,400,401,403,404,405,407,408,410,411,412,414,415,417,418,419,421,422,424,425,426,428,429,431,432,433,436,437,438,441,442,443,446,447,448,451,452,453,455,456,458,459,460,462,463,465,466,467,470,471,472,474,475,477,478,479,481,482,484,485,486,489,490,491,493,494,496,497,498,500,501,503,504]
theorem asE (P:nB):asL=(frag.heap_1 P).map (·.1):=by kernel_rfl
noncomputable def top (w:aX) (os:nk):Option Shared:=PySem.W.Fast.tw14082659384304107361 PySem.W.Fast.tw14364793385576792824 PySem.Challenge.pw_firnfall_k28_whole_more_ice_never_lets_o w (cZ w.params).objs.size ((cZ w.params).nsMap mainGlobals "__annotations__") 9000 ⟨cZ w.params,nE [],nH,boot_toks,os⟩ (oK PySem.Challenge.pw_firnfall_k28_whole_more_ice_never_lets_o)
def xt (s:Shared):Bool:=xlAt view [] s && recOk (RowW.records (OpenRow.toRowW (la PySem.Challenge.rw_firnfall_k28_whole_more_ice_never_lets_o))) s
theorem ran2 (w:aX) (os:nk):(top w os).map (λs=>(asL.map s.heap.get?,[142].map s.heap.get?))=some ((frag.heap_1 w.params).map λp=>some p.2,[142].map λ_=>some (nI #[])):=by kernel_rfl
theorem ws:OpenLaw.wellSaid PySem.Challenge.rw_firnfall_k28_whole_more_ice_never_lets_o=true:=by kernel_rfl
theorem ran1 (w:aX) (os:nk):(top w os).map (λs=>oP view loose (cO PySem.Challenge.pw_firnfall_k28_whole_more_ice_never_lets_o.main.body) xt true s)=some (oQ view loose):=by kernel_rfl
theorem ran0 (w:aX) (os:nk):(top w os).map (λs=>mH (cO PySem.Challenge.pw_firnfall_k28_whole_more_ice_never_lets_o.main.body) (cZ w.params) s.heap && lR PySem.Challenge.pw_firnfall_k28_whole_more_ice_never_lets_o s.heap && nJ s && nK (cZ w.params) s.heap)=some true:=by kernel_rfl
theorem VB (w:aX) (os:nk):topRun treeTable PySem.Challenge.pw_firnfall_k28_whole_more_ice_never_lets_o w (cZ w.params).objs.size ((cZ w.params).nsMap mainGlobals "__annotations__") 9000 ⟨cZ w.params,nE [],nH,boot_toks,os⟩ (oK PySem.Challenge.pw_firnfall_k28_whole_more_ice_never_lets_o)=top w os:=by
 rw [PySem.W.Fast.te14082659384304107361,PySem.W.Fast.te14364793385576792824]
 rfl
theorem U4 (w:aX):((cZ w.params).isNs mainGlobals && (nE []:Array oR).size == 0)=true:=by kernel_rfl
theorem kR {tb:String->Option eA}{p:Program}{w:aX}{N:Nat}{s:Shared}{h:Heap}{gs d k os}(hb:(h.isNs mainGlobals && gs.size == 0)=true) (hr:topRun tb p w h.objs.size (h.nsMap mainGlobals "__annotations__") N ⟨h,gs,d,k,os⟩ (oK p)=some s) (hl:(mH (cO p.main.body) h s.heap && lR p s.heap && nJ s && nK h s.heap)=true):topFrom tb p w N ⟨h,gs,d,k,os⟩=some s:=by
 unfold topFrom
 rw [hb]
 show ((topRun tb p w h.objs.size (h.nsMap mainGlobals "__annotations__") N ⟨h,gs,d,k,os⟩ (oK p)).bind _)=_
 rw [hr]
 show (match mH (cO p.main.body) h s.heap && lR p s.heap && nJ s && nK h s.heap with | true=>some s | false=>none)=_
 rw [hl]
theorem XE {tb:String->Option eA}{p:Program}{w:aX}{N:Nat}{s₀ s:Shared}(a:fencedOpening tb p w N=some s₀) (t:topFrom tb p w N s₀=some s):oS tb p w N=some s:=by
 unfold oS
 rw [a]
 exact t
theorem left:LeftO (la PySem.Challenge.rw_firnfall_k28_whole_more_ice_never_lets_o).prog view loose xt (Hook.obs (mI frag.heap_1 asL asE [142])) (Hook.val (mI frag.heap_1 asL asE [142])) 9000:=λw=>by
 obtain ⟨⟨h,gs,d,k,os⟩,a,b⟩:=Option.map_eq_some_iff.mp (boot_open (p:=PySem.Challenge.pw_firnfall_k28_whole_more_ice_never_lets_o) (N:=9000) (by kernel_rfl) ⋯ (λs=>by kernel_rfl) w)
 obtain ⟨rfl,rfl,rfl,rfl⟩:h=cZ w.params/\gs=nE []/\d=nH/\k=boot_toks:=by simpa using b
 have h0:=ran0 w os
 have h1:=ran1 w os
 have h2:=ran2 w os
 cases e:top w os with
 | none=>rw [e] at h1;cases h1
 | some s =>
  rw [e] at h0 h1 h2
  have l1:(mH (cO PySem.Challenge.pw_firnfall_k28_whole_more_ice_never_lets_o.main.body) (cZ w.params) s.heap && lR PySem.Challenge.pw_firnfall_k28_whole_more_ice_never_lets_o s.heap && nJ s && nK (cZ w.params) s.heap)=true:=aR h0
  have l2:oP view loose (cO PySem.Challenge.pw_firnfall_k28_whole_more_ice_never_lets_o.main.body) xt true s=oQ view loose:=aR h1
  obtain ⟨m1,m2⟩:=Prod.mk.inj (aR h2)
  have m5:asL.map s.heap.get? = (frag.heap_1 w.params).map λp=>some p.2:=m1
  have t:=XE a (kR (U4 w) ((VB w os).trans e) l1)
  show (oS treeTable PySem.Challenge.pw_firnfall_k28_whole_more_ice_never_lets_o w 9000).map _=_
  rw [t]
  show some (oP view loose (cO PySem.Challenge.pw_firnfall_k28_whole_more_ice_never_lets_o.main.body) xt true s,(asL.map s.heap.get?,[142].map s.heap.get?))=some (oQ view loose,_)
  rw [l2,m5,m2]
  rfl
end HO
end
namespace L2
abbrev Key:=Sum Int Str
def wZ:Key->ae->Bool
 | .inl k,v=>Value.isInt k v
 | .inr x,v=>ow x v
def keyH (w:aX):Key->Int
 | .inl k=>hashInt k
 | .inr x=>hashStr w x
theorem qi:∀{k:Key}{v:ae},wZ k v=true->(∃i t,k=cX i/\v=ib i t)\/(∃x t,k=aI x/\v=lE x t)
 | .inl i,v,h=>by
  obtain ⟨t,e⟩:=eB (k:=i) (v:=v) h
  exact .inl ⟨i,t,rfl,e⟩
 | .inr x,v,h=>by
  obtain ⟨t,e⟩:=lJ (x:=x) (v:=v) h
  exact .inr ⟨x,t,rfl,e⟩
theorem XV (i:Int) (t:Tok):wZ (.inl i) (.int i t)=true:=by simp [wZ,Value.isInt]
theorem Z5 (x:Str) (t:Tok):wZ (.inr x) (.str x t)=true:=by simp [wZ,ow]
theorem VE (a b:Int):decide ((cX a:Key)=cX b)=(a == b):=by
 by_cases e:a=b
 ·subst e;simp
 ·have h:¬(cX a:Key)=cX b:=λq=>e (dU q)
  rw [decide_eq_false h]
  exact (beq_eq_false_iff_ne.mpr e).symm
theorem VR (a b:Str):decide ((aI a:Key)=aI b)=decide (a=b):=by
 by_cases e:a=b
 ·subst e;simp
 ·have h:¬(aI a:Key)=aI b:=λq=>e (Sum.inr.inj q)
  rw [decide_eq_false h,decide_eq_false e]
theorem U1 (a:Int) (b:Str):decide ((cX a:Key)=aI b)=false:=decide_eq_false (λq=>nomatch q)
theorem VG (a:Str) (b:Int):decide ((aI a:Key)=cX b)=false:=decide_eq_false (λq=>nomatch q)
def jy (prog:Program) (w:aX):PySem.KeyKind prog w Key where
 is:=wZ
 hash:=keyH w
 inj:=λv a b ha hb=>by
  rcases qi ha with ⟨i,t,rfl,rfl⟩ | ⟨x,t,rfl,rfl⟩
  ·rcases qi hb with ⟨j,u,rfl,e⟩ | ⟨y,u,rfl,e⟩
   ·injection e with e1 _;rw [e1]
   ·exact nomatch e
  ·rcases qi hb with ⟨j,u,rfl,e⟩ | ⟨y,u,rfl,e⟩
   ·exact nomatch e
   ·injection e with e1 _;rw [e1]
 byValue:=λk v h=>by
  rcases qi h with ⟨i,t,rfl,rfl⟩ | ⟨x,t,rfl,rfl⟩ <;> rfl
 pyHash:=λhv h=>by
  rcases qi hv with ⟨i,t,rfl,rfl⟩ | ⟨x,t,rfl,rfl⟩
  ·exact wpAny_pyHash_int h
  ·exact wpAny_pyHash_str h
 eqBool:=λhu hv h=>by
  rcases qi hu with ⟨i,t,rfl,rfl⟩ | ⟨x,t,rfl,rfl⟩
  ·rcases qi hv with ⟨j,u,rfl,rfl⟩ | ⟨y,u,rfl,rfl⟩
   ·rw [VE] at h;exact ic h
   ·rw [U1] at h;exact lS i t y u _ _ _ _ h
  ·rcases qi hv with ⟨j,u,rfl,rfl⟩ | ⟨y,u,rfl,rfl⟩
   ·rw [VG] at h;exact lT x t j u _ _ _ _ h
   ·rw [VR] at h;exact wpAny_eqBool_str h
 «strs»:=λk x t v h=>by
  rcases qi h with ⟨i,u,rfl,e⟩ | ⟨y,u,rfl,e⟩
  ·exact nomatch e
  ·injection e with e1 _
   subst e1
   cases v <;> rfl
theorem Jr (prog:Program) (w:aX) (i:Int) (t:Tok):(jy prog w).is (.inl i) (.int i t)=true:=XV i t
theorem Jo (prog:Program) (w:aX) (x:Str) (t:Tok):(jy prog w).is (.inr x) (.str x t)=true:=Z5 x t
end L2
namespace L2
inductive V where
 | non | bl (b:Bool) | int (i:Int) | str (x:Str) | byt (b:Array UInt8) | flt (b:UInt64) | ref (a:Addr) | ty (n:String)
 deriving DecidableEq
def jA:V->ae->Prop
 | .non,u=>u=b7
 | .bl b,u=>u=iC b
 | .int i,u=>∃t,u=ib i t
 | .str x,u=>∃t,u=lE x t
 | .byt b,u=>∃t,u=Value.bytes b t
 | .flt b,u=>∃t,u=mQ b t
 | .ref a,u=>u=aZ a
 | .ty n,u=>u=fb n
abbrev jz:List V->List ae->Prop:=cf jA
theorem jz.length {xs:List V}{us:List ae}(r:jz xs us):xs.length=us.length:=aP r
theorem jz.get:∀{xs:List V}{us:List ae}{i:Nat}{x:V},jz xs us->xs[i]? = some x->∃u,us[i]? = some u/\jA x u
 | _,_,_,_,.nil,e=>by simp at e
 | _,_,0,_,.cons r _,e=>by simp at e;subst e;exact ⟨_,rfl,r⟩
 | _,_,i+1,x,.cons _ t,e=>by
  obtain ⟨u,h1,h2⟩:=jz.get (i:=i) (x:=x) t (by simpa using e)
  exact ⟨u,by simpa using h1,h2⟩
theorem jz.set {x:V}{u:ae}(r:jA x u):∀{xs:List V}{us:List ae}(i:Nat),jz xs us->jz (xs.set i x) (us.set i u)
 | _,_,_,.nil=>.nil
 | _,_,0,.cons _ t=>.cons r t
 | _,_,i+1,.cons q t=>.cons q (jz.set r i t)
theorem jz.append:∀{xs ys:List V}{us ws:List ae},jz xs us->jz ys ws->jz (xs++ys) (us++ws)
 | _,_,_,_,.nil,s=>s
 | _,_,_,_,.cons r t,s=>.cons r (jz.append t s)
theorem jz.take:∀{xs:List V}{us:List ae}(n:Nat),jz xs us->jz (xs.take n) (us.take n)
 | _,_,0,_=>.nil
 | _,_,_+1,.nil=>.nil
 | _,_,n+1,.cons r t=>.cons r (jz.take n t)
theorem jz.drop:∀{xs:List V}{us:List ae}(n:Nat),jz xs us->jz (xs.drop n) (us.drop n)
 | _,_,0,r=>r
 | _,_,_+1,.nil=>.nil
 | _,_,n+1,.cons _ t=>jz.drop n t
def zQ:Option V->Option ae->Prop
 | some v,some u=>jA v u
 | none,none=>True
 | _,_=>False
def KV {κ:Type}:List (κ×V)->List (κ×ae)->Prop:=cf λ(p:κ×V) (q:κ×ae)=>p.1=q.1/\jA p.2 q.2
def kV:Key->V
 | .inl i=>.int i
 | .inr x=>.str x
inductive HO where
  | lst (xs:List V)
  | tup (xs:List V)
  | dK (kvs:List (Key×V)) | dT (kvs:List (List Key×V))
  | set (S:Int->Bool) (n:Nat)
  | ins (C dx:Addr) (fs:List (Str×V))
  | own (x:Addr)
  | xd (fs:List (Str×V))
  | met (f x:Addr)
  | rng (lo hi:Int)
  | frz (o:Obj) (u:HO)
  | tbl (ps:Array ae)
  | ext (φ:Heap->Prop)
abbrev Hp:=Addr->Option HO
def upd (H:Hp) (a:Addr) (o:HO):Hp:=λb=>if b=a then some o else H b
theorem j7 {H:Hp}{a:Addr}{o:HO}:upd H a o a=some o:=by unfold upd;rw [if_pos rfl]
theorem j5 {H:Hp}{a b:Addr}{o:HO}(h:b≠a):upd H a o b=H b:=by unfold upd;rw [if_neg h]
theorem jh {H:Hp}{a b:Addr}{o u:HO}(h:H a=some o) (h':H b=some u) (d:o≠u):a≠b:=by
 intro e;subst e;rw [h] at h';exact d (aR h')
theorem j1 {H:Hp}{a b:Addr}{o:HO}(h:H a=some o) (h':H b=none):a≠b:=by
 intro e;subst e;rw [h] at h';cases h'
section
variable (P:Program) (w:aX)
def jY (H:Hp) (h:Heap) (a:Addr):HO->Prop
 | .lst xs=>xs.length<=sizeLine/\∃(its:List ae) (n:Nat),jz xs its/\h.get? a=some { cls:=.type "list",data:=.seq its.toArray n }
 | .tup xs=>xs.length<=sizeLine/\∃its:List ae,jz xs its/\IsTup h a its.toArray
 | .dK kvs=>kvs.length<=sizeLine/\(a == de)=false/\∃vs,KV kvs vs/\h.DictOf (jy P w) a vs
 | .dT kvs=>kvs.length<=sizeLine/\(a == de)=false/\∃xs:List (List Key×Addr×ae),
   cf (λ(p:List Key×V) (q:List Key×Addr×ae)=>p.1=q.1/\H q.2.1=some (.tup (p.1.map kV))/\jA p.2 q.2.2) kvs xs /\
   ∃o es ep,h.get? a=some o/\o.ExactDict/\o.data = .dict es ep/\es.toList=xs.map (entryOfKey (ie (jy P w)))/\(xs.map (·.1)).Nodup
 | .set S n=>h.SetOf (intKind P w) a S n
 | .ins C dx fs=>H dx=some (.own a)/\fs.length<=1000/\dx≠a/\h.get? a=some (cx C dx) /\
   ∃mA,h.Ns1 dx mA/\(∀f,zQ (fs.lookup f) (mA f))/\me mA (fs.map (·.1))
 | .own _=>∃o,h.get? a=some o
 | .xd fs=>∃mA,h.Ns1 a mA/\∀f,zQ (fs.lookup f) (mA f)
 | .rng lo hi=>∃t u v,h.get? a=some { cls:=.type "range",data:=.fields #[.int lo t,.int hi u,.int 1 v] }
 | .frz o u=>h.get? a=some o/\jY H h a u
 | .tbl ps=>h.get? a=some { cls:=.none,data:=.fields ps }
 | .met f x=>h.get? a=some (fZ (.ref f) (.ref x))
 | .ext φ=>φ h/\(∃o,h.get? a=some o)/\∀h1 h2:Heap,φ h1->(∀o,h1.get? a=some o->h2.get? a=some o)->φ h2
def HOk (H:Hp) (h:Heap):Prop:=∀a o,H a=some o->jY P w H h a o
end
section
variable {P:Program}{w:aX}{H H':Hp}{h h':Heap}{a:Addr}{o:HO}
theorem jY.lt (x:jY P w H h a o):a<h.objs.size:=by
 cases o with
 | lst xs=>obtain ⟨_,_,_,_,e⟩:=x;exact ax e
 | tup xs=>obtain ⟨_,_,_,p⟩:=x;exact p.lt
 | dK kvs=>obtain ⟨_,_,_,_,o,_,_,e,_⟩:=x;exact ax e
 | dT kvs=>obtain ⟨_,_,_,_,o,_,_,e,_⟩:=x;exact ax e
 | set S n=>obtain ⟨o,_,_,_,e,_⟩:=x;exact ax e
 | ins C dx fs=>obtain ⟨_,_,_,e,_⟩:=x;exact ax e
 | own y=>obtain ⟨_,e⟩:=x;exact ax e
 | xd fs=>obtain ⟨_,⟨_,_,_,e,_⟩,_⟩:=x;exact ax e
 | rng lo hi=>obtain ⟨_,_,_,e⟩:=x;exact ax e
 | frz ob u=>obtain ⟨e,_⟩:=x;exact ax e
 | tbl ps=>exact ax (show h.get? a=some _ from x)
 | met f y=>exact ax (show h.get? a=some _ from x)
 | ext φ=>obtain ⟨_,⟨_,e⟩,_⟩:=x;exact ax e
theorem Paired.mapP {α β:Type}{F G:α->β->Prop}:∀{l₁:List α}{l₂:List β},cf F l₁ l₂->(∀a b,F a b->G a b)->cf G l₁ l₂
 | _,_,.nil,_=>.nil
 | _,_,.cons r t,f=>.cons (f _ _ r) (Paired.mapP t f)
theorem jY.stay (x:jY P w H h a o) (k:∀b u,(b=a\/H b=some (.own a))->h.get? b=some u->h'.get? b=some u)
  (ho:∀b,H b=some (.own a)->H' b=some (.own a)) (ht:∀b xs,H b=some (.tup xs)->H' b=some (.tup xs)):jY P w H' h' a o:=by
 induction o with
 | lst xs=>obtain ⟨z,its,n,r,e⟩:=x;exact ⟨z,its,n,r,k _ _ (.inl rfl) e⟩
 | tup xs=>obtain ⟨z,its,r,ob,e,c⟩:=x;exact ⟨z,its,r,ob,k _ _ (.inl rfl) e,c⟩
 | dK kvs=>obtain ⟨z,y,vs,r,ob,es,ep,e,c⟩:=x;exact ⟨z,y,vs,r,ob,es,ep,k _ _ (.inl rfl) e,c⟩
 | dT kvs =>
  obtain ⟨z,y,xs,r,ob,es,ep,e,c⟩:=x
  exact ⟨z,y,xs,Paired.mapP r λp q z=>⟨z.1,ht _ _ z.2.1,z.2.2⟩,ob,es,ep,k _ _ (.inl rfl) e,c⟩
 | set S n=>obtain ⟨ob,es,ep,t,e,c⟩:=x;exact ⟨ob,es,ep,t,k _ _ (.inl rfl) e,c⟩
 | ins C dx fs =>
  obtain ⟨d,z,ne,e,mA,⟨od,es,ep,e2,c⟩,r⟩:=x
  exact ⟨ho _ d,z,ne,k _ _ (.inl rfl) e,mA,⟨od,es,ep,k _ _ (.inr d) e2,c⟩,r⟩
 | own y=>obtain ⟨ob,e⟩:=x;exact ⟨ob,k _ _ (.inl rfl) e⟩
 | xd fs=>obtain ⟨mA,⟨od,es,ep,e,c⟩,r⟩:=x;exact ⟨mA,⟨od,es,ep,k _ _ (.inl rfl) e,c⟩,r⟩
 | rng lo hi=>obtain ⟨t,u,v,e⟩:=x;exact ⟨t,u,v,k _ _ (.inl rfl) e⟩
 | frz ob u ih=>obtain ⟨e,q⟩:=x;exact ⟨k _ _ (.inl rfl) e,ih q⟩
 | tbl ps =>
  have e:h.get? a=some { cls:=.none,data:=.fields ps }:=x
  show h'.get? a=some { cls:=.none,data:=.fields ps }
  exact k a _ (.inl rfl) e
 | met f y =>
  have e:h.get? a=some (fZ (.ref f) (.ref y)):=x
  show h'.get? a=some (fZ (.ref f) (.ref y))
  exact k a _ (.inl rfl) e
 | ext φ=>obtain ⟨p,⟨o,e⟩,st⟩:=x;exact ⟨st _ _ p λo q=>k _ _ (.inl rfl) q,⟨o,k _ _ (.inl rfl) e⟩,st⟩
theorem HOk.lt (x:HOk P w H h) (e:H a=some o):a<h.objs.size:=(x a o e).lt
theorem HOk.fresh (x:HOk P w H h) (e:h.objs.size<=a):H a=none:=by
 cases q:H a with
 | none=>rfl
 | some u=>exact absurd (aM (x.lt q) e) (bX _)
theorem HOk.kept (x:HOk P w H h) (k:∀b u,h.get? b=some u->h'.get? b=some u):HOk P w H h':=λa o e =>
 (x a o e).stay (λb u _ q=>k b u q) (λ_ q=>q) λ_ _ q=>q
theorem HOk.laid (x:HOk P w H h) (k:∀b u,h.get? b=some u->h'.get? b=some u) (hp:h.objs.size<=a) (new:jY P w (upd H a o) h' a o):HOk P w (upd H a o) h':=λb u e=>by
 have hn:=x.fresh hp
 by_cases hb:b=a
 ·subst hb;rw [j7] at e;cases e;exact new
 ·rw [j5 hb] at e
  exact (x b u e).stay (λc v _ q=>k c v q) (λc q=>by rw [j5 (j1 q hn)];exact q) λc xs q=>by rw [j5 (j1 q hn)];exact q
end
def Rd (H:Hp) (a:Addr) (u:HO):Prop:=H a=some u\/∃o,H a=some (.frz o u)
theorem Rd.ok {P:Program}{w:aX}{H:Hp}{h:Heap}{a:Addr}{u:HO}(r:Rd H a u) (x:HOk P w H h):jY P w H h a u:=by
 rcases r with r | ⟨o,r⟩
 ·exact x a u r
 ·obtain ⟨_,q⟩:=x a _ r
  exact q
def Mut:Option HO->Prop
 | some (.lst _)=>True
 | some (.dK _)=>True
 | some (.dT _)=>True
 | some (.set _ _)=>True
 | some (.ins _ _ _)=>True
 | some (.ext _)=>True
 | _=>False
section
variable {P:Program}{w:aX}{H:Hp}{h h':Heap}{x e:Addr}{o':HO}
theorem HOk.write (ok:HOk P w H h) (mu:Mut (H x)) (he:e=x\/H e=some (.own x)) (k:∀b u,b≠e->h.get? b=some u->h'.get? b=some u) (heo:∃u,h'.get? e=some u)
  (new:jY P w (upd H x o') h' x o'):HOk P w (upd H x o') h':=λb u q=>by
 have nown:∀c y,H c=some (.own y)->c≠x:=λc y r z=>by subst z;rw [r] at mu;exact mu
 have ntup:∀c xs,H c=some (.tup xs)->c≠x:=λc xs r z=>by subst z;rw [r] at mu;exact mu
 by_cases hb:b=x
 ·subst hb;rw [j7] at q;cases q;exact new
 ·rw [j5 hb] at q
  by_cases hbe:b=e
  ·have q':H b=some (.own x):=by
    rcases he with z | z
    ·exact absurd (hbe.trans z) hb
    ·rw [hbe];exact z
   rw [q] at q';cases q'
   obtain ⟨v,hv⟩:=heo
   exact ⟨v,by rw [hbe];exact hv⟩
  ·refine (ok b u q).stay (λc v hc r=>k c v ?_ r) (λc r=>by rw [j5 (nown c b r)];exact r) λc xs r=>by rw [j5 (ntup c xs r)];exact r
   rcases hc with rfl | hc
   ·exact hbe
   ·rintro rfl
    rcases he with z | z
    ·exact nown c b hc z
    ·rw [hc] at z;cases z;exact hb rfl
end
structure Un (fs ex:List Addr) (H H':Hp) (h h':Heap):Prop where
 keep:∀b o,h.get? b=some o->H b=none->b∉fs->b∉ex->h'.get? b=some o
 slot:∀b o,h.get? b=some o->H b=none->b∈fs->b∉ex->∃sl,h'.get? b=some { o with slots:=sl }
 free:∀b o,h.get? b=some o->H b=none->b∉ex->H' b=none
 there:∀b o,h.get? b=some o->b∉ex->∃o',h'.get? b=some o'
 tups:∀b xs,H b=some (.tup xs)->H' b=some (.tup xs)
 frzs:∀b o u,H b=some (.frz o u)->H' b=some (.frz o u)
 tbls:∀b ps,H b=some (.tbl ps)->∃more,H' b=some (.tbl (ps++more))
section
variable {fs fs' ex ex':List Addr}{H H1 H2:Hp}{h h1 h2 h':Heap}{a x e:Addr}{o:HO}
theorem Un.any (u:Un fs ex H H1 h h1) {b:Addr}{ob:Obj}(q:h.get? b=some ob) (n:H b=none) (hx:b∉ex):∃sl,h1.get? b=some { ob with slots:=sl }:=by
 by_cases hb:b∈fs
 ·exact u.slot b ob q n hb hx
 ·exact ⟨ob.slots,u.keep b ob q n hb hx⟩
theorem Un.kept (k:∀b u,h.get? b=some u->h'.get? b=some u):Un fs ex H H h h' :=
 ⟨λb ob q _ _ _=>k b ob q,λb ob q _ _ _=>⟨ob.slots,k b ob q⟩,λ_ _ _ n _=>n,λb ob q _=>⟨ob,k b ob q⟩,λ_ _ q=>q,λ_ _ _ q=>q,λ_ ps q=>⟨#[],by rw [q];simp⟩⟩
theorem Un.refl:Un fs ex H H h h:=Un.kept λ_ _ q=>q
theorem Un.laid (k:∀b u,h.get? b=some u->h'.get? b=some u) (hp:h.objs.size<=a) (hn:H a=none):Un fs ex H (upd H a o) h h' where
 keep:=λb u q _ _ _=>k b u q
 slot:=λb u q _ _ _=>⟨u.slots,k b u q⟩
 free:=λb u q n _=>by rw [j5 (aB (aM (ax q) hp))];exact n
 there:=λb u q _=>⟨u,k b u q⟩
 tups:=λb xs q=>by rw [j5 (j1 q hn)];exact q
 frzs:=λb u xs q=>by rw [j5 (j1 q hn)];exact q
 tbls:=λb ps q=>⟨#[],by rw [j5 (j1 q hn),q];simp⟩
theorem Un.write (mu:Mut (H x)) (he:e=x\/H e=some (.own x)) (k:∀b u,b≠e->h.get? b=some u->h'.get? b=some u) (heo:∃u,h'.get? e=some u):Un fs ex H (upd H x o) h h':=by
 have hx:∀b,H b=none->b≠x:=λb n z=>by subst z;rw [n] at mu;exact mu
 have hb:∀b,H b=none->b≠e:=λb n z=>by
  subst z
  rcases he with r | r
  ·exact hx b n r
  ·rw [n] at r;cases r
 have hm:∀b u,H b=some u->¬Mut (some u)->b≠x:=λb u q nm z=>by subst z;rw [q] at mu;exact nm mu
 refine ⟨λb u q n _ _=>k b u (hb b n) q,λb u q n _ _=>⟨u.slots,k b u (hb b n) q⟩,λb u q n _=>by rw [j5 (hx b n)];exact n,λb u q _=>?_,
  λb xs q=>by rw [j5 (hm b _ q λz=>z)];exact q,λb u xs q=>by rw [j5 (hm b _ q λz=>z)];exact q,λb ps q=>⟨#[],by rw [j5 (hm b _ q λz=>z),q];simp⟩⟩
 by_cases hbe:b=e
 ·subst hbe;exact heo
 ·exact ⟨u,k b u hbe q⟩
end
def trk (h:Heap) (H:Hp):List Addr:=(aO h.objs.size).filter λa=>(H a).isSome
def wT (h:Heap) (H:Hp):Heap:=PySem.W.hideAll h (trk h H)
theorem Z1 (h:Heap) (H:Hp):(wT h H).objs.size=h.objs.size:=PySem.W.hideAll_size _ _
theorem Y6 {h:Heap}{H:Hp}{b:Addr}{o:Obj}(e:h.get? b=some o) (n:H b=none):(wT h H).get? b=some o :=
 PySem.W.hideAll_get _ e λhm=>by
  have q:(H b).isSome=true:=(List.mem_filter.mp hm).2
  rw [n] at q;simp at q
theorem V0 {h:Heap}{H:Hp}{b:Addr}{o:Obj}(e:(wT h H).get? b=some o):h.get? b=some o/\H b=none:=by
 have e':h.get? b=some o:=PySem.W.of_hideAll (trk h H) e
 refine ⟨e',?_⟩
 cases q:H b with
 | none=>rfl
 | some x =>
  have hm:b∈trk h H:=List.mem_filter.mpr ⟨List.mem_range.mpr (ax e'),by simp [q]⟩
  have z:(wT h H).get? b=none:=PySem.W.hideAll_none (trk h H) hm
  rw [z] at e;cases e
def Vd (g h:Heap) (L:Addr):List (Addr×Obj):=(aO h.objs.size).filterMap λa=>if a=L\/(g.get? a).isSome=true then none else (h.get? a).map λo=>(a,o)
def zw (g h:Heap) (L d:Addr):List (Addr×Obj):=(Vd g h L).filter λp=>decide (p.1≠d)
end L2
namespace L2
structure Mod (K:ai) (mg:Str->Option ae) (base:Heap):Prop where
 kin:K.In base
 glob:base.Ns mainGlobals mg
 blt:∃mb,base.Ns iD mb/\∀x:Str,x ≠ "__name__" -> mb x=eC x
 nolimit:base.NoLimit
structure Cx where
 prog:Program
 w:aX
 K:ai
 mg:Str->Option ae
 base:Heap
 A:bg
 N:List Str
 s₀:Shared
 H₀:Hp
 env:Env
 outer:List Env
 stack:List Env
 ex:List Addr
 fn:Str->Bool
 calm:Bool
 pn:List (Addr×Obj)
 xe:ae->Shared->Prop
def frs (l:List Env):List Addr:=l.filterMap (·.frame)
abbrev Cx.fs (X:Cx):List Addr:=frs X.outer
def Vis (sc:Scope) (x:Str):Prop:=sc.names.lookup x=some .local\/sc.names.lookup x=some .cell\/sc.names.lookup x=some .free
def Loc (sc:Scope) (x:Str):Prop:=sc.names.lookup x=some .local\/sc.names.lookup x=some .cell
def Look (env:Env) (h:Heap) (m:Str->Option ae) (x:Str) (u:ae):Prop :=
 (env.kindOf x=some .local/\m x=some u)\/((env.kindOf x=some .cell\/env.kindOf x=some .free)/\∃c,env.cells.lookup x=some c/\h.IsCell c (some u))
structure Cx.Ok (X:Cx):Prop where
 mod:Mod X.K X.mg X.base
 kind:X.env.scope.kind = .function
 glob:X.env.globals=mainGlobals
 blt:X.env.builtins=iD
 above:X.s₀.heap.objs.size<=X.env.locals
 inj:∀x y c,X.env.cells.lookup x=some c->X.env.cells.lookup y=some c->x=y
 has:∀x,(X.env.kindOf x=some .cell\/X.env.kindOf x=some .free)->∃c,X.env.cells.lookup x=some c
 cab:∀x c,X.fn x=true->X.env.cells.lookup x=some c->X.s₀.heap.objs.size<=c
 hd:X.calm=true->X.A.handled=none
 frames:X.A.frames=some X.stack
 stk:X.stack=X.outer\/(X.stack=X.env::X.outer/\X.env.frame=some X.env.locals)
 exf:∀b∈X.ex,b≠X.env.locals/\∀x c,X.env.cells.lookup x=some c->c≠b
 bs:∀b o,X.base.get? b=some o->X.s₀.heap.get? b=some o/\X.H₀ b=none
 bsz:X.base.objs.size<=X.s₀.heap.objs.size
 noex:∀b o,X.base.get? b=some o->b∉X.ex
 exfs:∀b∈X.ex,b∉X.fs
 funs:X.s₀.heap.FunFrames X.base X.outer
 frf:∀b∈X.fs,X.H₀ b=none
structure Inv (X:Cx) (pins:List (Addr×Obj)) (σ:List (Option V)) (H:Hp) (s:Shared):Prop where
 ok:X.Ok
 os:s.os=X.s₀.os
 bare:ff s.gens
 base:Un X.fs X.ex X.H₀ H X.s₀.heap s.heap
 loc:∃m,s.heap.Ns X.env.locals m/\∀(i:Nat) (x:Str) (v:V),X.N[i]? = some x->σ[i]? = some (some v)->Vis X.env.scope x->∃u,jA v u/\Look X.env s.heap m x u
 cell:∀x c,X.env.cells.lookup x=some c->∃v,s.heap.IsCell c v
 free:H X.env.locals=none
 freeC:∀x c,X.env.cells.lookup x=some c->H c=none
 pin:∀p∈X.pn++pins,s.heap.get? p.1=some p.2/\H p.1=none/\p.1≠X.env.locals/\p.1∉X.fs/\∀v,p.2.data≠.cell v
 hok:HOk X.prog X.w H s.heap
 len:σ.length=X.N.length
section
variable {X:Cx}{pins:List (Addr×Obj)}{σ:List (Option V)}{H H':Hp}{s:Shared}{h':Heap}
theorem Cx.Ok.nofr (ok:X.Ok) {b:Addr}{o:Obj}(e:X.base.get? b=some o):b∉X.fs:=λhb=>by
 have:=(ok.funs.mem hb).1
 rw [e] at this;cases this
theorem Inv.bs (I:Inv X pins σ H s):∀b o,X.base.get? b=some o->s.heap.get? b=some o/\H b=none:=λb o e =>
 ⟨I.base.keep b o (I.ok.bs b o e).1 (I.ok.bs b o e).2 (I.ok.nofr e) (I.ok.noex b o e),I.base.free b o (I.ok.bs b o e).1 (I.ok.bs b o e).2 (I.ok.noex b o e)⟩
theorem Inv.bk (I:Inv X pins σ H s):∀b o,X.base.get? b=some o->s.heap.get? b=some o:=λb o e=>(I.bs b o e).1
theorem Inv.mod (I:Inv X pins σ H s):Mod X.K X.mg X.base:=I.ok.mod
theorem Inv.kIn (I:Inv X pins σ H s):X.K.In s.heap:=I.ok.mod.kin.keeps I.bk
theorem Inv.lt (I:Inv X pins σ H s):X.env.locals<s.heap.objs.size:=let ⟨_,hn,_⟩:=I.loc;hn.lt
theorem Inv.sz (I:Inv X pins σ H s):X.s₀.heap.objs.size<=s.heap.objs.size:=aG I.ok.above (cT I.lt)
theorem Inv.nofs (I:Inv X pins σ H s) {a:Addr}(h:s.heap.objs.size<=a):a∉X.fs:=λhb=>by
 obtain ⟨_,o,ho,_⟩:=I.ok.funs.mem hb
 exact absurd (aM (ax ho) (aG I.sz h)) (bX _)
theorem Inv.cne (I:Inv X pins σ H s):∀x c,X.env.cells.lookup x=some c->c≠X.env.locals:=λx c e z=>by
 obtain ⟨v,o,ho,hd⟩:=I.cell x c e
 obtain ⟨m,⟨o',es,ep,ho',hd',_⟩,_⟩:=I.loc
 rw [z,ho'] at ho;cases ho;rw [hd'] at hd;cases hd
theorem Inv.funs (I:Inv X pins σ H s):s.heap.FunFrames X.base X.outer:=by
 have all:∀(l:List Env),(∀b∈frs l,b∈X.fs)->X.s₀.heap.FunFrames X.base l->s.heap.FunFrames X.base l:=by
  intro l
  induction l with
  | nil=>intro _ _;trivial
  | cons env r ih =>
   intro hs hl
   obtain ⟨hk,⟨L,o,hf,hn,ho,hd⟩,hr⟩:=hl
   have hL:L∈X.fs:=hs L (by unfold frs;rw [fD,hf];exact aC)
   obtain ⟨sl,e⟩:=I.base.slot L o ho (I.ok.frf L hL) hL λz=>I.ok.exfs L z hL
   exact ⟨hk,⟨L,_,hf,hn,e,hd⟩,ih (λb hb=>hs b (by unfold frs;rw [fD,hf];exact az _ hb)) hr⟩
 exact all X.outer (λ_ hb=>hb) I.ok.funs
theorem Inv.stack (I:Inv X pins σ H s):s.heap.FunFrames X.base X.stack:=by
 rcases I.ok.stk with e | ⟨e,hf⟩
 ·rw [e];exact I.funs
 ·rw [e]
  obtain ⟨m,hn,_⟩:=I.loc
  refine .cons (by rw [I.ok.kind];decide) hf hn ?_ I.funs
  exact Heap.get?_none_of_le (aG I.ok.bsz I.ok.above)
theorem Inv.stkSub (I:Inv X pins σ H s):∀b∈frs X.stack,b∈X.env.locals::X.fs:=λb hb=>by
 rcases I.ok.stk with e | ⟨e,hf⟩
 ·rw [e] at hb;exact az _ hb
 ·rw [e] at hb
  unfold frs at hb
  rw [fD,hf] at hb
  exact hb
theorem Inv.stkFree (I:Inv X pins σ H s):∀b∈frs X.stack,H b=none:=λb hb=>by
 rcases List.mem_cons.mp (I.stkSub b hb) with e | hb
 ·rw [e];exact I.free
 ·obtain ⟨_,o,ho,_⟩:=I.ok.funs.mem hb
  exact I.base.free b o ho (I.ok.frf b hb) λz=>I.ok.exfs b z hb
theorem Inv.step {g':Array oR}{t':Nat}{d':Drawn}{ch:List Addr}(I:Inv X pins σ H s)
  (hch:∀b∈ch,(b∈X.ex\/X.s₀.heap.objs.size<=b)/\b≠X.env.locals/\(∀x c,X.env.cells.lookup x=some c->c≠b)/\∀p∈X.pn++pins,p.1≠b)
  (keep:∀b o,b≠X.env.locals->b∉X.fs->b∉ch->s.heap.get? b=some o->H b=none->h'.get? b=some o)
  (slot:∀b o,b≠X.env.locals->b∈X.fs->b∉ch->s.heap.get? b=some o->H b=none->∃sl,h'.get? b=some { o with slots:=sl }) (free:∀b o,b∉ch->s.heap.get? b=some o->H b=none->H' b=none)
  (there:∀b o,b∉ch->s.heap.get? b=some o->∃o',h'.get? b=some o')
  (tups:∀b xs,H b=some (.tup xs)->H' b=some (.tup xs)) (frzs:∀b o u,H b=some (.frz o u)->H' b=some (.frz o u)) (tbls:∀b ps,H b=some (.tbl ps)->∃more,H' b=some (.tbl (ps++more)))
  (ns:∀m,s.heap.Ns X.env.locals m->h'.Ns X.env.locals m) (hok:HOk X.prog X.w H' h') (hg:ff g') :
  Inv X pins σ H' { s with heap:=h',gens:=g',drawn:=d',toks:=t' }:=by
 have neL:∀b o,X.s₀.heap.get? b=some o->b≠X.env.locals:=λb o e=>aB (aM (ax e) I.ok.above)
 have neC:∀b o,X.s₀.heap.get? b=some o->b∉X.ex->b∉ch:=λb o e hx hb=>by
  rcases (hch b hb).1 with z | z
  ·exact hx z
  ·exact absurd (aM (ax e) z) (bX _)
 have cellK:∀x c,X.env.cells.lookup x=some c->∀v,s.heap.IsCell c v->h'.IsCell c v:=λx c e v ⟨o,ho,hd⟩=>by
  have nch:c∉ch:=λz=>(hch c z).2.2.1 x c e rfl
  by_cases hc:c∈X.fs
  ·obtain ⟨sl,q⟩:=slot c o (I.cne x c e) hc nch ho (I.freeC x c e)
   exact ⟨_,q,hd⟩
  ·exact ⟨o,keep c o (I.cne x c e) hc nch ho (I.freeC x c e),hd⟩
 refine ⟨I.ok,I.os,hg,⟨λb o e n hb hx=>?_,λb o e n hb hx=>?_,λb o e n hx=>?_,λb o e hx=>?_,λb xs e=>tups b xs (I.base.tups b xs e),λb o xs e=>frzs b o xs (I.base.frzs b o xs e),λb ps e=>?_⟩,?_,λx c e=>?_,?_,λx c e=>?_,λp hp=>?_,hok,I.len⟩
 ·exact keep b o (neL b o e) hb (neC b o e hx) (I.base.keep b o e n hb hx) (I.base.free b o e n hx)
 ·obtain ⟨sl,e1⟩:=I.base.slot b o e n hb hx
  obtain ⟨sl',e2⟩:=slot b _ (neL b o e) hb (neC b o e hx) e1 (I.base.free b o e n hx)
  exact ⟨sl',e2⟩
 ·obtain ⟨o',e1⟩:=I.base.there b o e hx
  exact free b o' (neC b o e hx) e1 (I.base.free b o e n hx)
 ·obtain ⟨o',e1⟩:=I.base.there b o e hx
  exact there b o' (neC b o e hx) e1
 ·obtain ⟨m1,e1⟩:=I.base.tbls b ps e
  obtain ⟨m2,e2⟩:=tbls b _ e1
  exact ⟨m1++m2,by rw [e2,Array.append_assoc]⟩
 ·obtain ⟨m,hn,hl⟩:=I.loc
  refine ⟨m,ns m hn,λi x v e1 e2 e3=>?_⟩
  obtain ⟨u,r,l⟩:=hl i x v e1 e2 e3
  refine ⟨u,r,?_⟩
  rcases l with l | ⟨k,c,e,z⟩
  ·exact .inl l
  ·exact .inr ⟨k,c,e,cellK x c e _ z⟩
 ·obtain ⟨v,z⟩:=I.cell x c e
  exact ⟨v,cellK x c e v z⟩
 ·obtain ⟨m,⟨o,_,_,ho,_⟩,_⟩:=I.loc
  exact free _ o (λz=>(hch _ z).2.1 rfl) ho I.free
 ·obtain ⟨v,o,ho,hd⟩:=I.cell x c e
  exact free c o (λz=>(hch c z).2.2.1 x c e rfl) ho (I.freeC x c e)
 ·obtain ⟨e,n,ne,nf,d⟩:=I.pin p hp
  have nch:p.1∉ch:=λz=>(hch p.1 z).2.2.2 p hp rfl
  exact ⟨keep p.1 p.2 ne nf nch e n,free p.1 p.2 nch e n,ne,nf,d⟩
theorem Inv.un {t':Nat}(I:Inv X pins σ H s) (u:Un X.fs [] H H' s.heap h') (hok:HOk X.prog X.w H' h'):Inv X pins σ H' { s with heap:=h',toks:=t' }:=by
 obtain ⟨m,⟨o,es,ep,ho,r⟩,_⟩:=id I.loc
 obtain ⟨sl,hL⟩:=u.any ho I.free (by simp)
 exact I.step (g':=s.gens) (d':=s.drawn) (ch:=[]) (λ_ z=>nomatch z) (λb o _ hb _ e n=>u.keep b o e n hb (by simp)) (λb o _ hb _ e n=>u.slot b o e n hb (by simp)) (λb o _ e n=>u.free b o e n (by simp)) (λb o _ e=>u.there b o e (by simp)) u.tups u.frzs u.tbls (λm' hm=>by
  obtain ⟨o',es',ep',ho',r'⟩:=hm
  rw [ho] at ho';cases ho'
  exact ⟨_,es',ep',hL,r'⟩) hok I.bare
theorem Inv.call {g':Array oR}{t':Nat}{d':Drawn}{ch:List Addr}(I:Inv X pins σ H s) (u:Un (frs X.stack) ch H H' s.heap h') (hok:HOk X.prog X.w H' h') (hg:ff g')
  (hch:∀b∈ch,(b∈X.ex\/X.s₀.heap.objs.size<=b)/\b≠X.env.locals/\(∀x c,X.env.cells.lookup x=some c->c≠b)/\∀p∈X.pn++pins,p.1≠b) :
  Inv X pins σ H' { s with heap:=h',gens:=g',drawn:=d',toks:=t' }:=by
 obtain ⟨m,⟨o,es,ep,ho,r⟩,_⟩:=id I.loc
 obtain ⟨sl,hL⟩:=u.any ho I.free λz=>(hch _ z).2.1 rfl
 exact I.step (ch:=ch) hch (λb o hL hb hc e n=>u.keep b o e n (λz=>(List.mem_cons.mp (I.stkSub b z)).elim hL hb) hc) (λb o _ _ hc e n=>u.any e n hc) (λb o hc e n=>u.free b o e n hc) (λb o hc e=>u.there b o e hc) u.tups u.frzs u.tbls (λm' hm=>by
  obtain ⟨o',es',ep',ho',r'⟩:=hm
  rw [ho] at ho';cases ho'
  exact ⟨_,es',ep',hL,r'⟩) hok hg
theorem Inv.turned {t':Nat}{it:Addr}(I:Inv X pins σ H s) (k:∀b o,b≠it->s.heap.get? b=some o->h'.get? b=some o) (hn:H it=none) (hL:it≠X.env.locals)
  (h1:it∈X.ex\/X.s₀.heap.objs.size<=it) (h2:∀x c,X.env.cells.lookup x=some c->c≠it) (h3:∀p∈X.pn++pins,p.1≠it):Inv X pins σ H { s with heap:=h',toks:=t' }:=by
 have nit:∀b u,H b=some u->b≠it:=λb u e z=>by rw [z,hn] at e;cases e
 refine I.step (g':=s.gens) (d':=s.drawn) (ch:=[it]) (λb hb=>?_) (λb o _ _ hc e _=>k b o (λz=>hc (by simp [z])) e) (λb o _ _ hc e _=>⟨o.slots,k b o (λz=>hc (by simp [z])) e⟩) (λ_ _ _ _ n=>n)
  (λb o hc e=>⟨o,k b o (λz=>hc (by simp [z])) e⟩) (λ_ _ e=>e) (λ_ _ _ e=>e) (λb ps e=>⟨#[],by rw [e];simp⟩) (λm hm=>?_) (λb u e=>?_) I.bare
 ·have e:b=it:=by simpa using hb
  subst e
  exact ⟨h1,hL,h2,h3⟩
 ·obtain ⟨o,es,ep,ho,r⟩:=hm
  exact ⟨o,es,ep,k _ o (cY hL) ho,r⟩
 ·refine (I.hok b u e).stay (λc v hc q=>k c v ?_ q) (λ_ q=>q) λ_ _ q=>q
  rcases hc with z | z
  ·rw [z];exact nit b u e
  ·exact nit c _ z
theorem Inv.tok (I:Inv X pins σ H s) (t:Nat):Inv X pins σ H { s with toks:=t }:=I.un (h':=s.heap) (t':=t) Un.refl I.hok
theorem Inv.kept {t':Nat}(I:Inv X pins σ H s) (k:∀b u,s.heap.get? b=some u->h'.get? b=some u):Inv X pins σ H { s with heap:=h',toks:=t' }:=I.un (Un.kept k) (I.hok.kept k)
theorem Inv.laid {a:Addr}{o:HO}{t':Nat}(I:Inv X pins σ H s) (k:∀b u,s.heap.get? b=some u->h'.get? b=some u) (hp:s.heap.objs.size<=a) (new:jY X.prog X.w (upd H a o) h' a o) :
  Inv X pins σ (upd H a o) { s with heap:=h',toks:=t' }:=I.un (Un.laid k hp (I.hok.fresh hp)) (I.hok.laid k hp new)
theorem Inv.write {x e:Addr}{o:HO}{t':Nat}(I:Inv X pins σ H s) (mu:Mut (H x)) (he:e=x\/H e=some (.own x)) (k:∀b u,b≠e->s.heap.get? b=some u->h'.get? b=some u) (heo:∃u,h'.get? e=some u)
  (new:jY X.prog X.w (upd H x o) h' x o):Inv X pins σ (upd H x o) { s with heap:=h',toks:=t' }:=I.un (Un.write mu he k heo) (I.hok.write mu he k heo new)
theorem Inv.pins_of {pins':List (Addr×Obj)}(I:Inv X pins σ H s) (h:∀p∈pins',s.heap.get? p.1=some p.2/\H p.1=none/\p.1≠X.env.locals/\p.1∉X.fs/\∀v,p.2.data≠.cell v):Inv X pins' σ H s :=
 ⟨I.ok,I.os,I.bare,I.base,I.loc,I.cell,I.free,I.freeC,λp hp=>(List.mem_append.mp hp).elim (λz=>I.pin p (fj _ z)) (h p),I.hok,I.len⟩
theorem JE {N:List Str}(hN:N.Nodup) {i j:Nat}{x:Str}(a:N[i]? = some x) (b:N[j]? = some x):i=j:=by
 obtain ⟨h1,e1⟩:=List.getElem?_eq_some_iff.mp a
 obtain ⟨h2,e2⟩:=List.getElem?_eq_some_iff.mp b
 exact (List.getElem_inj hN).mp (e1.trans e2.symm)
theorem kB {M:ph}{A:bg}{E:ae->Shared->Prop}{i:Nat}{x:Str}{v:V}{u:ae}{Q:Unit->Shared->Prop}(I:Inv X pins σ H s) (hN:X.N.Nodup) (hi:X.N[i]? = some x) (hx:Loc X.env.scope x) (r:jA v u)
  (h:∀s',Inv X pins (σ.set i (some v)) H s'->(∃a,fH a s.heap s'.heap/\(a=X.env.locals\/X.env.cells.lookup x=some a))->Q () s') (hf:X.fn x=true\/X.env.scope.names.lookup x=some .local:=by first | exact .inl rfl | exact .inr rfl | assumption):ay M A (oH X.env x u) Q E s:=by
 obtain ⟨m,hn,hl⟩:=id I.loc
 have hcls:(X.env.scope.kind == .class || (X.env.scope.kind == .module && X.env.locals != X.env.globals))=false:=by rw [I.ok.kind];rfl
 have hiσ:i<σ.length:=by rw [I.len];exact (List.getElem?_eq_some_iff.mp hi).1
 have cne:=I.cne
 have tracked:∀{a:Addr} {h':Heap},(∃o,s.heap.get? a=some o/\H a=none)->fH a s.heap h'->HOk X.prog X.w H h':=λ{a h'} ha hs b ob e=>by
  obtain ⟨_,_,hfree⟩:=ha
  refine (I.hok b ob e).stay (λc w' hc q=>(hs.2 c ?_).trans q) (λ_ q=>q) λ_ _ q=>q
  rintro rfl
  rcases hc with rfl | hc
  ·rw [hfree] at e;cases e
  ·rw [hfree] at hc;cases hc
 rcases hx with hk | hk
 ·refine wpAny_storeName_local hk hn (λh' hn' hs=>?_) hcls
  obtain ⟨oL,_,_,hoL,_⟩:=id hn
  refine h _ ⟨I.ok,I.os,I.bare,⟨λb o e n hb hx=>?_,λb o e n hb hx=>?_,I.base.free,λb o e hx=>?_,I.base.tups,I.base.frzs,I.base.tbls⟩,⟨_,hn',λj y v' e1 e2 e3=>?_⟩,λy c e=>?_,I.free,I.freeC,λp hp=>?_,tracked ⟨oL,hoL,I.free⟩ hs,by simpa using I.len⟩ ⟨_,hs,.inl rfl⟩
  ·exact (hs.2 b (aB (aM (ax e) I.ok.above))).trans (I.base.keep b o e n hb hx)
  ·obtain ⟨sl,e1⟩:=I.base.slot b o e n hb hx
   exact ⟨sl,(hs.2 b (aB (aM (ax e) I.ok.above))).trans e1⟩
  ·obtain ⟨o',e1⟩:=I.base.there b o e hx
   exact ⟨o',(hs.2 b (aB (aM (ax e) I.ok.above))).trans e1⟩
  ·by_cases hj:j=i
   ·subst hj
    rw [hi] at e1;cases e1
    rw [iE hiσ] at e2
    cases e2
    exact ⟨u,r,.inl ⟨hk,by simp⟩⟩
   ·rw [lg (cY hj)] at e2
    obtain ⟨u',r',q⟩:=hl j y v' e1 e2 e3
    refine ⟨u',r',?_⟩
    rcases q with ⟨k,e⟩ | ⟨k,c,e,z⟩
    ·refine .inl ⟨k,?_⟩
     have:y≠x:=λe=>hj (JE hN e1 (e ▸ hi))
     simp [this,e]
    ·exact .inr ⟨k,c,e,z.sameBut hs (cne y c e)⟩
  ·obtain ⟨w',z⟩:=I.cell y c e
   exact ⟨w',z.sameBut hs (cne y c e)⟩
  ·obtain ⟨e,n,ne,nf,d⟩:=I.pin p hp
   exact ⟨(hs.2 p.1 ne).trans e,n,ne,nf,d⟩
 ·have hfn:X.fn x=true:=by
   rcases hf with z | z
   ·exact z
   ·rw [z] at hk;cases hk
  obtain ⟨c,hc⟩:=I.ok.has x (.inl hk)
  obtain ⟨w',z⟩:=I.cell x c hc
  refine wpAny_storeName_cell I.ok.kind hk hc z (λh' hc' hs=>?_)
  obtain ⟨oc,hoc,hocd⟩:=id z
  refine h { s with heap:=h' } ⟨I.ok,I.os,I.bare,⟨λb o e n hb hx=>?_,λb o e n hb hx=>?_,I.base.free,λb o e hx=>?_,I.base.tups,I.base.frzs,I.base.tbls⟩,⟨m,hn.sameBut hs (cY (cne x c hc)),λj y v' e1 e2 e3=>?_⟩,λy c' e=>?_,I.free,I.freeC,λp hp=>?_,tracked ⟨oc,hoc,I.freeC x c hc⟩ hs,by simpa using I.len⟩ ⟨c,hs,.inr hc⟩
  ·exact (hs.2 b (aB (aM (ax e) (I.ok.cab x c hfn hc)))).trans (I.base.keep b o e n hb hx)
  ·obtain ⟨sl,e1⟩:=I.base.slot b o e n hb hx
   exact ⟨sl,(hs.2 b (aB (aM (ax e) (I.ok.cab x c hfn hc)))).trans e1⟩
  ·obtain ⟨o',e1⟩:=I.base.there b o e hx
   exact ⟨o',(hs.2 b (aB (aM (ax e) (I.ok.cab x c hfn hc)))).trans e1⟩
  ·by_cases hj:j=i
   ·subst hj
    rw [hi] at e1;cases e1
    rw [iE hiσ] at e2
    cases e2
    exact ⟨u,r,.inr ⟨.inl hk,c,hc,hc'⟩⟩
   ·rw [lg (cY hj)] at e2
    obtain ⟨u',r',q⟩:=hl j y v' e1 e2 e3
    refine ⟨u',r',?_⟩
    rcases q with q | ⟨k,c',e,z'⟩
    ·exact .inl q
    ·refine .inr ⟨k,c',e,z'.sameBut hs ?_⟩
     rintro rfl
     exact hj (JE hN e1 (I.ok.inj _ _ _ e hc ▸ hi))
  ·by_cases hcc:c'=c
   ·subst hcc;exact ⟨_,hc'⟩
   ·obtain ⟨w2,z2⟩:=I.cell y c' e
    exact ⟨w2,z2.sameBut hs hcc⟩
  ·obtain ⟨e,n,ne,nf,d⟩:=I.pin p hp
   refine ⟨(hs.2 p.1 ?_).trans e,n,ne,nf,d⟩
   intro q
   rw [q,hoc] at e
   have q':oc=p.2:=aR e
   exact d w' (by rw [<- q'];exact hocd)
theorem ww {M:ph}{A:bg}{E:ae->Shared->Prop}{i:Nat}{x:Str}{v:V}{u:ae}{Q:Unit->Shared->Prop}(I:Inv X pins σ H s) (hN:X.N.Nodup) (hi:X.N[i]? = some x) (hx:Loc X.env.scope x) (r:jA v u)
  (h:∀s',Inv X pins (σ.set i (some v)) H s'->Q () s') (hf:X.fn x=true\/X.env.scope.names.lookup x=some .local:=by first | exact .inl rfl | exact .inr rfl | assumption):ay M A (oH X.env x u) Q E s :=
 kB I hN hi hx r (λs' I' _=>h s' I') hf
theorem Inv.call' {s':Shared}{ch:List Addr}(I:Inv X pins σ H s) (ho:s'.os=s.os) (u:Un (frs X.stack) ch H H' s.heap s'.heap) (hok:HOk X.prog X.w H' s'.heap) (hg:ff s'.gens)
  (hch:∀b∈ch,(b∈X.ex\/X.s₀.heap.objs.size<=b)/\b≠X.env.locals/\(∀x c,X.env.cells.lookup x=some c->c≠b)/\∀p∈X.pn++pins,p.1≠b):Inv X pins σ H' s':=by
 obtain ⟨h',g',d',t',o'⟩:=s'
 have e:o'=s.os:=ho
 subst e
 exact I.call (g':=g') (t':=t') (d':=d') u hok hg hch
end
abbrev XK:=ae->Option Addr->Hp->Prop
abbrev St:=List (Option V)
abbrev VK:=V->Hp->Prop
abbrev TE:=St->Hp->VK->Prop
abbrev TT:=St->Hp->(Bool->Hp->Prop)->Prop
abbrev TA:=St->Hp->(List V->Hp->Prop)->Prop
structure Ends where
 nx:St->Hp->Prop
 rt:VK
 bk:St->Hp->Prop:=λ_ _=>False
 ct:St->Hp->Prop:=λ_ _=>False
abbrev TS:=Ends->St->Hp->Prop
def EP (X:Cx) (pins:List (Addr×Obj)) (σ:St) (Q:VK) (u:ae) (s':Shared):Prop:=∃v H',Inv X pins σ H' s'/\jA v u/\Q v H'
def TP (X:Cx) (pins:List (Addr×Obj)) (σ:St) (Q:Bool->Hp->Prop) (b:Bool) (s':Shared):Prop:=∃H',Inv X pins σ H' s'/\Q b H'
def AP (X:Cx) (pins:List (Addr×Obj)) (σ:St) (Q:List V->Hp->Prop) (us:List ae) (s':Shared):Prop:=∃vs H',Inv X pins σ H' s'/\jz vs us/\Q vs H'
def SP (X:Cx) (pins:List (Addr×Obj)) (D:Ends) (f:Flow) (s':Shared):Prop :=
 match f with
 | .next=>∃σ' H',Inv X pins σ' H' s'/\D.nx σ' H'
 | .brk=>∃σ' H',Inv X pins σ' H' s'/\D.bk σ' H'
 | .cont=>∃σ' H',Inv X pins σ' H' s'/\D.ct σ' H'
 | .ret u=>∃v σ' H',Inv X pins σ' H' s'/\jA v u/\D.rt v H'
def PE (X:Cx) (e:Expr) (t:TE):Prop :=
 ∀(pins:List (Addr×Obj)) (s:Shared) (σ:St) (H:Hp) (Q:VK),Inv X pins σ H s->t σ H Q->ay (aA X.prog X.w) X.A (eval e X.env) (EP X pins σ Q) X.xe s
def PT (X:Cx) (e:Expr) (t:TT):Prop :=
 ∀(pins:List (Addr×Obj)) (s:Shared) (σ:St) (H:Hp) (Q:Bool->Hp->Prop),Inv X pins σ H s->t σ H Q->ay (aA X.prog X.w) X.A (isTrue e X.env (eval e X.env)) (TP X pins σ Q) X.xe s
def PW (X:Cx) (e:Expr) (t:TT):Prop :=
 ∀(whole:Sem ae) (pins:List (Addr×Obj)) (s:Shared) (σ:St) (H:Hp) (Q:Bool->Hp->Prop),Inv X pins σ H s->t σ H Q->ay (aA X.prog X.w) X.A (isTrue e X.env whole) (TP X pins σ Q) X.xe s
theorem PW.pt {X:Cx}{e:Expr}{t:TT}(h:PW X e t):PT X e t:=h _
def PA (X:Cx) (es:List Expr) (t:TA):Prop :=
 ∀(pos:Pos) (pins:List (Addr×Obj)) (s:Shared) (σ:St) (H:Hp) (Q:List V->Hp->Prop),Inv X pins σ H s->t σ H Q->ay (aA X.prog X.w) X.A (spliced (ck pos (aK es X.env))) (AP X pins σ Q) X.xe s
def PS (X:Cx) (st:Stmt) (t:TS):Prop :=
 ∀(pins:List (Addr×Obj)) (s:Shared) (σ:St) (H:Hp) (D:Ends),Inv X pins σ H s->t D σ H->ay (aA X.prog X.w) X.A (exec st X.env) (SP X pins D) X.xe s
def PSs (X:Cx) (st:List Stmt) (t:TS):Prop :=
 ∀(pins:List (Addr×Obj)) (s:Shared) (σ:St) (H:Hp) (D:Ends),Inv X pins σ H s->t D σ H->ay (aA X.prog X.w) X.A (execs st X.env) (SP X pins D) X.xe s
theorem thn {α:Type}{t:Sem α}{Q Q':α->Shared->Prop}{M:ph}{A:bg}{E:ae->Shared->Prop}{s:Shared}(h:ay M A t Q E s) (hQ:∀a s,Q a s->Q' a s):ay M A t Q' E s:=aV h hQ λ_ _ x=>x
end L2
namespace L2
section
variable {X:Cx}
theorem bin {a b:Expr}{ta tb:TE}(ha:PE X a ta) (hb:PE X b tb) {pins:List (Addr×Obj)}{s:Shared}{σ:St}{H:Hp}{R:V->V->Hp->Prop}(I:Inv X pins σ H s) (h:ta σ H λx H1=>tb σ H1 λy H2=>R x y H2)
  {α:Type} {Q:α->Shared->Prop} {f:ae->ae->Sem α}
  (hf:∀v u s2 x y H2,Inv X pins σ H2 s2->jA x v->jA y u->R x y H2->ay (aA X.prog X.w) X.A (f v u) Q X.xe s2) :
  ay (aA X.prog X.w) X.A (eval a X.env) (λv s₁=>ay (aA X.prog X.w) X.A (eval b X.env) (λu s₂=>ay (aA X.prog X.w) X.A (f v u) Q X.xe s₂) X.xe s₁) X.xe s:=by
 refine thn (ha pins s σ H _ I h) λv s1 ⟨x,H1,I1,r1,q1⟩=>?_
 refine thn (hb pins s1 σ H1 _ I1 q1) λu s2 ⟨y,H2,I2,r2,q2⟩=>?_
 exact hf v u s2 x y H2 I2 r1 r2 q2
def VA (i:Nat):TE:=λσ H Q=>∃v,σ[i]? = some (some v)/\Q v H
def tC (v:V):TE:=λ_ H Q=>Q v H
theorem U8 {i:Nat}{x:Str}{pos:Pos}(hN:X.N[i]? = some x) (hv:Vis X.env.scope x) (hd:(x == ("__debug__" : Str))=false:=by decide) (hcd:(x == ("__classdict__" : Str))=false:=by decide):PE X (.Name x pos) (VA i):=by
 intro pins s σ H Q I h
 obtain ⟨v,e,h⟩:=h
 obtain ⟨m,hn,hl⟩:=I.loc
 obtain ⟨u,r,l⟩:=hl i x v hN e hv
 have fin:EP X pins σ Q u s:=⟨v,H,I,r,h⟩
 rcases l with ⟨hk,hm⟩ | ⟨hk,c,hc,hcell⟩
 ·exact nM (lh I.ok.kind hk hn hm fin) hd
 ·rcases hk with hk | hk
  ·exact nM (lK I.ok.kind hk hc hcell fin) hd
  ·exact nM (wpAny_loadName_free I.ok.kind hk hc hcell fin hcd) hd
theorem j6 {i j pos}:PE X (.Constant (.int i) j pos) (tC (.int i)):=λ_ _ _ H _ I h=>wpAny_Constant_int ⟨.int i,H,I.tok _,⟨_,rfl⟩,h⟩
theorem kD {b j pos}:PE X (.Constant (.bool b) j pos) (tC (.bl b)):=λ_ _ _ H _ I h=>Constant_bool ⟨.bl b,H,I,rfl,h⟩
theorem Zv {j pos}:PE X (.Constant .none j pos) (tC .non):=λ_ _ _ H _ I h=>Constant_none ⟨.non,H,I,rfl,h⟩
theorem jw {x j pos}:PE X (.Constant (.str x) j pos) (tC (.str x)):=λ_ _ _ H _ I h=>Calls.Constant_str ⟨.str x,H,I.tok _,⟨_,rfl⟩,h⟩
def Gl (X:Cx) (x:Str):Prop:=X.env.kindOf x=some .globalImplicit
theorem vy {E:ae->Shared->Prop}{pins:List (Addr×Obj)}{s:Shared}{σ:St}{H:Hp}{x:Str}{u:ae}{pos:Pos}{Q:ae->Shared->Prop}(I:Inv X pins σ H s) (hg:Gl X x) (hm:X.mg x=some u) (h:Q u s)
  (hd:(x == ("__debug__" : Str))=false:=by decide):ay (aA X.prog X.w) X.A (eval (.Name x pos) X.env) Q E s :=
 fL I.ok.kind hg (Calls.loadGlobal_global (by rw [I.ok.glob];exact I.mod.glob.keeps I.bk) hm h) hd
theorem y8 {E:ae->Shared->Prop}{pins:List (Addr×Obj)}{s:Shared}{σ:St}{H:Hp}{x:Str}{u:ae}{pos:Pos}{Q:ae->Shared->Prop}(I:Inv X pins σ H s) (hg:Gl X x) (hm:X.mg x=none) (hv:eC x=some u) (h:Q u s)
  (hn:x ≠ "__name__":=by decide) (hd:(x == ("__debug__" : Str))=false:=by decide):ay (aA X.prog X.w) X.A (eval (.Name x pos) X.env) Q E s:=by
 obtain ⟨mb,h1,h2⟩:=I.mod.blt
 exact fL I.ok.kind hg (Calls.loadGlobal_builtin (by rw [I.ok.glob];exact I.mod.glob.keeps I.bk) hm (by rw [I.ok.blt];exact h1.keeps I.bk) ((h2 x hn).trans hv) h) hd
theorem qX {x:Str}{v:V}{u:ae}{pos:Pos}(hg:Gl X x) (hm:X.mg x=some u) (r:jA v u) (hd:(x == ("__debug__" : Str))=false:=by decide):PE X (.Name x pos) (tC v) :=
 λ_ _ _ H _ I h=>vy I hg hm ⟨v,H,I,r,h⟩ hd
theorem QL {x:Str}{v:V}{u:ae}{pos:Pos}(hg:Gl X x) (hm:X.mg x=none) (hv:eC x=some u) (r:jA v u) (hn:x ≠ "__name__":=by decide) (hd:(x == ("__debug__" : Str))=false:=by decide):PE X (.Name x pos) (tC v) :=
 λ_ _ _ H _ I h=>y8 I hg hm hv ⟨v,H,I,r,h⟩ hn hd
variable {a b:Expr}{ta tb:TE}{pos:Pos}
def PC (X:Cx) (op:nN) (a b:Expr) (t:TE):Prop :=
 ∀(pins:List (Addr×Obj)) (s:Shared) (σ:St) (H:Hp) (Q:VK),Inv X pins σ H s->t σ H Q ->
  ay (aA X.prog X.w) X.A (eval a X.env) (λv s₁=>ay (aA X.prog X.w) X.A (eval b X.env) (λu s₂=>ay (aA X.prog X.w) X.A (bQ op v u) (EP X pins σ Q) X.xe s₂) X.xe s₁) X.xe s
theorem ZQ (b:Expr) {op:nN}(h:op≠.In) (h2:op≠.NotIn):dq op b=false:=by
 have e1:(op == CmpOp.In)=false:=by cases op <;> first | rfl | exact absurd rfl h
 have e2:(op == CmpOp.NotIn)=false:=by cases op <;> first | rfl | exact absurd rfl h2
 cases b <;> simp [dq,e1,e2]
def tB (t:TE):TT:=λσ H Q=>t σ H λx H1=>∃c,x = .bl c/\Q c H1
theorem pt_cmp {op:nN}{t:TE}(h:PC X op a b t) (h1:dq op b=false:=by first | exact ZQ _ ⋯ ⋯ | rfl):PT X (.Compare a [op] [b] pos) (tB t):=by
 intro pins s σ H Q I hw
 refine iY (thn (h pins s σ H _ I hw) λv s1 h1=>thn h1 λu s2 h2=>thn h2 λc s3 ⟨x,H1,I1,r1,q1⟩=>?_) h1
 obtain ⟨d,rfl,q⟩:=q1
 cases r1
 exact bU ⟨H1,I1,q⟩
theorem yN {e:Expr}{t:TE}(h:PE X e t) (he:∀whole,isTrue e X.env whole=(do let v <- whole;eE e.pos;dQ [v] (truthy v)):=by intro _;rfl):PT X e (tB t):=by
 intro pins s σ H Q I hw
 refine isTrue_plain (thn (h pins s σ H _ I hw) λv s1 ⟨x,H1,I1,r1,q1⟩=>?_) (he _)
 obtain ⟨d,rfl,q⟩:=q1
 cases r1
 exact bU ⟨H1,I1,q⟩
variable {tA tB':TT}{zw:List Expr}
def tAnd (t u:TT):TT:=λσ H Q=>t σ H λc H1=>if c=true then u σ H1 Q else Q false H1
def tOr (t u:TT):TT:=λσ H Q=>t σ H λc H1=>if c=true then Q true H1 else u σ H1 Q
def tNot (t:TT):TT:=λσ H Q=>t σ H λc H1=>Q (!c) H1
theorem QO (ha:PT X a tA):PW X (.BoolOp .And [a] pos) tA:=by
 intro wh pins s σ H Q I h
 refine isTrue_and (thn (ha pins s σ H Q I h) λc s1 e=>?_)
 cases c with
 | true=>exact isTrue_and_nil e
 | false=>exact e
theorem ZZ (ha:PT X a tA):PW X (.BoolOp .Or [a] pos) tA:=by
 intro wh pins s σ H Q I h
 refine isTrue_or (thn (ha pins s σ H Q I h) λc s1 e=>?_)
 cases c with
 | false=>exact isTrue_or_nil e
 | true=>exact e
theorem ZT (ha:PT X a tA) (hb:PW X (.BoolOp .And (b::zw) pos) tB'):PW X (.BoolOp .And (a::b::zw) pos) (tAnd tA tB'):=by
 intro wh pins s σ H Q I h
 refine isTrue_and (thn (ha pins s σ H _ I h) λc s1 ⟨H1,I1,q1⟩=>?_)
 cases c with
 | true=>exact hb wh pins s1 σ H1 Q I1 q1
 | false=>exact ⟨H1,I1,q1⟩
theorem Y0 (ha:PT X a tA) (hb:PW X (.BoolOp .Or (b::zw) pos) tB'):PW X (.BoolOp .Or (a::b::zw) pos) (tOr tA tB'):=by
 intro wh pins s σ H Q I h
 refine isTrue_or (thn (ha pins s σ H _ I h) λc s1 ⟨H1,I1,q1⟩=>?_)
 cases c with
 | true=>exact ⟨H1,I1,q1⟩
 | false=>exact hb wh pins s1 σ H1 Q I1 q1
theorem qT (ha:PT X a tA):PT X (.UnaryOp .Not a pos) (tNot tA):=by
 intro pins s σ H Q I h
 exact isTrue_not (ha pins s σ H (λc H1=>Q (!c) H1) I h)
def UF (ta tb:TE):TE:=λσ H Q=>ta σ H λx H1=>∃c,x = .bl c/\if c=true then tb σ H1 Q else Q (.bl false) H1
theorem QG {op}{t:TE}(h:PE X a t):PE X (.BoolOp op [a] pos) t:=λpins s σ H Q I hw=>BoolOp_one (h pins s σ H Q I hw)
theorem gK (ha:PE X a ta) (hb:PE X (.BoolOp .And (b::zw) pos) tb):PE X (.BoolOp .And (a::b::zw) pos) (UF ta tb):=by
 intro pins s σ H Q I h
 refine BoolOp_and (thn (ha pins s σ H _ I h) λv s1 ⟨x,H1,I1,r1,q1⟩=>?_)
 obtain ⟨c,rfl,q1⟩:=q1
 cases r1
 refine bU ?_
 cases c with
 | true=>exact hb pins s1 σ H1 Q I1 q1
 | false=>exact ⟨.bl false,H1,I1,rfl,q1⟩
def tIf (t:TT) (ta tb:TE):TE:=λσ H Q=>t σ H λc H1=>if c=true then ta σ H1 Q else tb σ H1 Q
theorem ZF {c:Expr}(hc:PT X c tA) (ha:PE X a ta) (hb:PE X b tb):PE X (.IfExp c a b pos) (tIf tA ta tb):=by
 intro pins s σ H Q I h
 refine wpAny_IfExp (thn (hc pins s σ H _ I h) λd s1 ⟨H1,I1,q1⟩=>?_)
 cases d with
 | true=>exact ha pins s1 σ H1 Q I1 q1
 | false=>exact hb pins s1 σ H1 Q I1 q1
end
end L2
namespace L2
def SqL (K:ai) (H:Hp) (a:Addr) (xs:List V):Prop :=
 Rd H a (.lst xs) \/
  ∃(o:Obj) (its:Array ae) (n:Nat),K.lookup a=some o/\o.cls = .type "list" /\ o.dict=none/\o.data = .seq its n/\its.size<=sizeLine/\jz xs its.toList
def SqT (K:ai) (H:Hp) (a:Addr) (xs:List V):Prop :=
 Rd H a (.tup xs) \/
  ∃(o:Obj) (its:Array ae) (n:Nat),K.lookup a=some o/\o.cls = .type "tuple" /\ o.data = .seq its n/\its.size<=sizeLine/\jz xs its.toList
def absV:ae->Option V
 | .none=>some .non
 | .bool b=>some (.bl b)
 | .int i _=>some (.int i)
 | .str x _=>some (.str x)
 | .bytes b _=>some (.byt b)
 | .float b _=>some (.flt b)
 | .ref a=>some (.ref a)
 | .type n=>some (.ty n)
 | _=>none
theorem jA.abs {x:V}{u:ae}(r:jA x u):absV u=some x:=by
 cases x with
 | non=>cases r;rfl
 | bl _=>cases r;rfl
 | int _=>obtain ⟨t,rfl⟩:=r;rfl
 | str _=>obtain ⟨t,rfl⟩:=r;rfl
 | byt _=>obtain ⟨t,rfl⟩:=r;rfl
 | flt _=>obtain ⟨t,rfl⟩:=r;rfl
 | ref _=>cases r;rfl
 | ty _=>cases r;rfl
theorem jA.inj {x y:V}{u:ae}(r:jA x u) (q:jA y u):x=y:=aR (r.abs.symm.trans q.abs)
theorem jz.inj:∀{xs ys:List V}{us:List ae},jz xs us->jz ys us->xs=ys
 | _,_,_,.nil,.nil=>rfl
 | _,_,_,.cons r t,.cons r' t'=>by rw [r.inj r',jz.inj t t']
section
variable {X:Cx}{pins:List (Addr×Obj)}{σ:St}{H:Hp}{s:Shared}{a:Addr}{xs ys:List V}
theorem SqL.of {K:ai}(h:H a=some (.lst xs)):SqL K H a xs:=.inl (.inl h)
theorem SqT.of {K:ai}(h:H a=some (.tup xs)):SqT K H a xs:=.inl (.inl h)
theorem Inv.list (I:Inv X pins σ H s) (h:SqL X.K H a xs):∃its:List ae,jz xs its/\PlainL s.heap a its.toArray/\xs.length<=sizeLine:=by
 rcases h with h | ⟨o,its,n,hk,hc,hd,hs,hz,r⟩
 ·obtain ⟨z,its,n,r,e⟩:=h.ok I.hok
  exact ⟨its,r,⟨_,n,e,rfl,rfl,rfl⟩,z⟩
 ·refine ⟨its.toList,r,⟨o,n,I.kIn a o hk,hc,hd,by simpa using hs⟩,?_⟩
  have e:=r.length
  simp only [bI] at e
  omega
theorem Inv.tuple (I:Inv X pins σ H s) (h:SqT X.K H a xs):∃its:List ae,jz xs its/\IsTup s.heap a its.toArray/\xs.length<=sizeLine:=by
 rcases h with h | ⟨o,its,n,hk,hc,hs,hz,r⟩
 ·obtain ⟨z,its,r,p⟩:=h.ok I.hok
  exact ⟨its,r,p,z⟩
 ·refine ⟨its.toList,r,⟨o,I.kIn a o hk,hc,n,by simpa using hs⟩,?_⟩
  have e:=r.length
  simp only [bI] at e
  omega
theorem Inv.list_inj (I:Inv X pins σ H s) (h:SqL X.K H a xs) (h':SqL X.K H a ys):xs=ys:=by
 obtain ⟨its,r,⟨o,n,e,_,_,d⟩,_⟩:=I.list h
 obtain ⟨its',r',⟨o',n',e',_,_,d'⟩,_⟩:=I.list h'
 rw [e] at e';cases e'
 rw [d] at d'
 injection d' with d1 _
 have:its=its':=by simpa using congrArg Array.toList d1
 subst this
 exact r.inj r'
theorem Inv.tuple_inj (I:Inv X pins σ H s) (h:SqT X.K H a xs) (h':SqT X.K H a ys):xs=ys:=by
 obtain ⟨its,r,⟨o,e,_,n,d⟩,_⟩:=I.tuple h
 obtain ⟨its',r',⟨o',e',_,n',d'⟩,_⟩:=I.tuple h'
 rw [e] at e';cases e'
 rw [d] at d'
 injection d' with d1 _
 have:its=its':=by simpa using congrArg Array.toList d1
 subst this
 exact r.inj r'
end
abbrev Cx.wish (X:Cx) (E:ae->Shared->Prop):Cx:={ X with xe:=E }
abbrev Cx.nox (X:Cx):Cx:=X.wish λ_ _=>False
theorem Cx.Ok.wish {X:Cx}(ok:X.Ok) (E:ae->Shared->Prop):(X.wish E).Ok :=
 ⟨ok.mod,ok.kind,ok.glob,ok.blt,ok.above,ok.inj,ok.has,ok.cab,ok.hd,ok.frames,ok.stk,ok.exf,ok.bs,ok.bsz,ok.noex,ok.exfs,ok.funs,ok.frf⟩
theorem Cx.Ok.unwish {X:Cx}{E:ae->Shared->Prop}(ok:(X.wish E).Ok):X.Ok :=
 ⟨ok.mod,ok.kind,ok.glob,ok.blt,ok.above,ok.inj,ok.has,ok.cab,ok.hd,ok.frames,ok.stk,ok.exf,ok.bs,ok.bsz,ok.noex,ok.exfs,ok.funs,ok.frf⟩
section
variable {X:Cx}{pins:List (Addr×Obj)}{σ:St}{H:Hp}{s:Shared}{E:ae->Shared->Prop}
theorem Inv.wish (I:Inv X pins σ H s) (E:ae->Shared->Prop):Inv (X.wish E) pins σ H s:=⟨I.ok.wish E,I.os,I.bare,I.base,I.loc,I.cell,I.free,I.freeC,I.pin,I.hok,I.len⟩
theorem Inv.unwish (I:Inv (X.wish E) pins σ H s):Inv X pins σ H s:=⟨I.ok.unwish,I.os,I.bare,I.base,I.loc,I.cell,I.free,I.freeC,I.pin,I.hok,I.len⟩
theorem SP.unwish {D:Ends}{f:Flow}{s':Shared}(h:SP (X.wish E) pins D f s'):SP X pins D f s':=by
 cases f with
 | next=>obtain ⟨σ',H',I,q⟩:=h;exact ⟨σ',H',I.unwish,q⟩
 | brk=>obtain ⟨σ',H',I,q⟩:=h;exact ⟨σ',H',I.unwish,q⟩
 | cont=>obtain ⟨σ',H',I,q⟩:=h;exact ⟨σ',H',I.unwish,q⟩
 | ret u=>obtain ⟨v,σ',H',I,r,q⟩:=h;exact ⟨v,σ',H',I.unwish,r,q⟩
theorem PE.nox {e:Expr}{t:TE}(h:PE X.nox e t):PE X e t:=λpins s σ H Q I hw =>
 aV (h pins s σ H Q (I.wish _) hw) (λ_ _ ⟨v,H',I',r,q⟩=>⟨v,H',I'.unwish,r,q⟩) λ_ _ z=>bp z
theorem PSs.nox {st:List Stmt}{t:TS}(h:PSs X.nox st t):PSs X st t:=λpins s σ H D I hw =>
 aV (h pins s σ H D (I.wish _) hw) (λ_ _ q=>q.unwish) λ_ _ z=>bp z
end
section
variable {X:Cx}{st:Stmt}{zw:List Stmt}{t u:TS}{e:Expr}{te:TE}{pos:Pos}
def Uv:TS:=λD σ H=>D.nx σ H
def tSeq (t u:TS):TS:=λD σ H=>t { D with nx:=u D } σ H
theorem jD:PSs X [] Uv:=λ_ _ σ H _ I h=>ft ⟨σ,H,I,h⟩
theorem j4 (h1:PS X st t) (h2:PSs X zw u):PSs X (st::zw) (tSeq t u):=by
 intro pins s σ H D I h
 refine ig (thn (h1 pins s σ H { D with nx:=u D } I h) λf s1 q=>?_)
 cases f with
 | next =>
  obtain ⟨σ',H',I',q⟩:=q
  exact h2 pins s1 σ' H' D I' q
 | ret v=>exact q
 | brk=>exact q
 | cont=>exact q
theorem j9 (h1:PS X st t):PSs X [st] t:=by
 intro pins s σ H D I h
 refine ig (thn (h1 pins s σ H D I h) λf s1 q=>?_)
 cases f with
 | next=>exact ft q
 | ret v=>exact q
 | brk=>exact q
 | cont=>exact q
def Ud:TS:=λD σ H=>D.bk σ H
theorem JP:PS X (.Break pos) Ud:=λ_ _ σ H _ I h=>wpAny_Break ⟨σ,H,I,h⟩
theorem Inv.quiet {pins:List (Addr×Obj)}{σ:St}{H:Hp}{s:Shared}(I:Inv X pins σ H s):interactive X.env=false:=by simp [interactive,I.ok.kind]
def UX (te:TE):TS:=λD σ H=>te σ H λ_ H1=>D.nx σ H1
theorem jU (he:PE X e te) (hs:fJ e none pos.line X.env=pure false:=by rfl):PS X (.Expr e pos) (UX te):=by
 intro pins s σ H D I h
 exact wpAny_Expr_any (thn (he pins s σ H _ I h) λv s1 ⟨x,H1,I1,r1,q1⟩=>⟨σ,H1,I1,q1⟩) I.quiet hs
def tRet (te:TE):TS:=λD σ H=>te σ H D.rt
theorem jj (he:PE X e te):PS X (.Return (some e) pos) (tRet te):=by
 intro pins s σ H D I h
 exact wpAny_Return_some (thn (he pins s σ H _ I h) λv s1 ⟨x,H1,I1,r1,q1⟩=>⟨x,σ,H1,I1,r1,q1⟩)
def tIfS (c:TT) (t u:TS):TS:=λD σ H=>c σ H λb H1=>if b=true then t D σ H1 else u D σ H1
theorem qj {c:Expr}{a b:List Stmt}{tc:TT}(hc:PT X c tc) (ha:PSs X a t) (hb:PSs X b u):PS X (.If c a b pos) (tIfS tc t u):=by
 intro pins s σ H D I h
 refine wpAny_If (thn (hc pins s σ H _ I h) λd s1 ⟨H1,I1,q1⟩=>?_)
 cases d with
 | true=>exact ha pins s1 σ H1 D I1 q1
 | false=>exact hb pins s1 σ H1 D I1 q1
end
abbrev TG:=V->St->Hp->(St->Hp->Prop)->Prop
abbrev TGs:=List V->St->Hp->(St->Hp->Prop)->Prop
def PG (X:Cx) (target:Expr) (t:TG):Prop :=
 ∀(pins:List (Addr×Obj)) (s:Shared) (σ:St) (H:Hp) (v:V) (u:ae) (Q:St->Hp->Prop),Inv X pins σ H s->jA v u->t v σ H Q ->
  ay (aA X.prog X.w) X.A (fz target X.env u) (λ_ s'=>∃σ' H',Inv X pins σ' H' s'/\Q σ' H') X.xe s
def PGs (X:Cx) (ts:List Expr) (t:TGs):Prop :=
 ∀(pins:List (Addr×Obj)) (s:Shared) (σ:St) (H:Hp) (vs:List V) (us:List ae) (Q:St->Hp->Prop),Inv X pins σ H s->jz vs us->t vs σ H Q ->
  ay (aA X.prog X.w) X.A (assignInOrder ((dR ts X.env).map (·.2)) us) (λ_ s'=>∃σ' H',Inv X pins σ' H' s'/\Q σ' H') X.xe s
abbrev VQ:=V->V->V->Hp->(Hp->Prop)->Prop
def UU (X:Cx) (t:VQ):Prop :=
 ∀(pins:List (Addr×Obj)) (s:Shared) (σ:St) (H:Hp) (o i v:V) (ov iv u:ae) (Q:Hp->Prop),Inv X pins σ H s->jA o ov->jA i iv->jA v u->t o i v H Q ->
  ay (aA X.prog X.w) X.A (setItem ov iv u) (λ_ s'=>∃H',Inv X pins σ H' s'/\Q H') X.xe s
abbrev TIp:=V->V->Hp->VK->Prop
def PIp (X:Cx) (op:oU) (t:TIp):Prop :=
 ∀(pins:List (Addr×Obj)) (s:Shared) (σ:St) (H:Hp) (x y:V) (v u:ae) (Q:VK),Inv X pins σ H s->jA x v->jA y u->t x y H Q ->
  ay (aA X.prog X.w) X.A (inplaceOp op v u) (EP X pins σ Q) X.xe s
section
variable {X:Cx}{pos:Pos}
def wU (i:Nat):TG:=λv σ H Q=>Q (σ.set i (some v)) H
theorem jc {i:Nat}{x:Str}(hN:X.N.Nodup) (hi:X.N[i]? = some x) (hx:Loc X.env.scope x) (hf:X.fn x=true\/X.env.scope.names.lookup x=some .local:=by first | exact .inl rfl | exact .inr rfl | assumption):PG X (.Name x pos) (wU i):=by
 intro pins s σ H v u Q I r h
 exact mf (ww I hN hi hx r (λs' I'=>⟨_,H,I',h⟩) hf)
def gNil:TGs:=λvs σ H Q=>vs=[]/\Q σ H
def Uw (t:TG) (u:TGs):TGs:=λvs σ H Q=>∃v r,vs=v::r/\t v σ H λσ' H'=>u r σ' H' Q
theorem qN:PGs X [] gNil:=by
 intro pins s σ H vs us Q I r h
 obtain ⟨e,h⟩:=h
 subst e
 cases r
 exact assignInOrder_nil ⟨σ,H,I,h⟩
theorem jr {e:Expr}{es:List Expr}{t:TG}{u:TGs}(h1:PG X e t) (h2:PGs X es u)
  (hs:(dR (e::es) X.env).map (·.2)=fz e X.env::(dR es X.env).map (·.2):=by rfl):PGs X (e::es) (Uw t u):=by
 intro pins s σ H vs us Q I r h
 obtain ⟨v,vr,e1,h⟩:=h
 subst e1
 cases r with
 | cons r rr =>
  rw [hs]
  refine assignInOrder_cons (thn (h1 pins s σ H _ _ _ I r h) λ_ s1 ⟨σ1,H1,I1,q1⟩=>?_)
  exact h2 pins s1 σ1 H1 _ _ Q I1 rr q1
def UJ (K:ai) (n:Nat) (t:TGs):TG:=λv σ H Q=>∃a xs,v = .ref a/\SqT K H a xs/\xs.length=n/\t xs σ H Q
theorem VF {es:List Expr}{k:Nat}{t:TGs}{n:Nat}(hc:X.calm=true) (h:PGs X es t)
  (hn:(dR es X.env).length=n:=by rfl) (hst:(dR es X.env).findIdx? (·.1)=none:=by rfl):PG X (.Tuple es k pos) (UJ X.K n t):=by
 intro pins s σ H v u Q I r hw
 obtain ⟨a,xs,e1,hq,hl,hw⟩:=hw
 subst e1
 cases r
 obtain ⟨its,rv,ht,hz⟩:=I.tuple hq
 refine assign_Tuple_tuple (I.ok.hd hc) ht (by simp [hn,<- hl,rv.length]) hst λh' hx=>?_
 have I1:Inv X pins σ H { s with heap:=h' }:=I.kept (t':=s.toks) λb o e=>hx b o (aB (ax e)) e
 exact h pins _ σ H xs _ Q I1 (by simpa using rv) hw
def gSub (to ti:TE) (t:VQ):TG:=λv σ H Q=>to σ H λo H1=>ti σ H1 λi H2=>t o i v H2 λH3=>Q σ H3
theorem wH {o i:Expr}{to ti:TE}{t:VQ}(ho:PE X o to) (hi:PE X i ti) (hs:UU X t)
  (ha:∀v,fz (.Subscript o i pos) X.env v=(do
   let ov <- dQ [v] (eval o X.env)
   let iv <- dQ [v,ov] (eval i X.env)
   eE pos
   dQ [v,ov,iv] (setItem ov iv v)
   release [v,ov,iv] []):=by intro _;rfl):PG X (.Subscript o i pos) (gSub to ti t):=by
 intro pins s σ H v u Q I r h
 rw [ha]
 refine ah (bO (thn (ho pins s σ H _ I h) λov s1 ⟨x,H1,I1,r1,q1⟩=>?_))
 refine ah (bO (thn (hi pins s1 σ H1 _ I1 q1) λiv s2 ⟨y,H2,I2,r2,q2⟩=>?_))
 refine ah (cH (ah (bO (thn (hs pins s2 σ H2 x y v ov iv u _ I2 r1 r2 r q2) λ_ s3 ⟨H3,I3,q3⟩=>?_))))
 exact wpAny_release ⟨σ,H3,I3,q3⟩
def YW (te:TE) (g:TG):TS:=λD σ H=>te σ H λx H1=>g x σ H1 D.nx
theorem xR {tg e:Expr}{te:TE}{g:TG}(he:PE X e te) (hg:PG X tg g) (hs:swapsWithSole [tg] e pos.line X.env=pure false:=by rfl) (hw:swappedStores [tg] e X.env=pure none:=by rfl)
  (h1:(dR [tg] X.env).map (·.2)=[fz tg X.env]:=by rfl):PS X (.Assign [tg] e pos) (YW te g):=by
 intro pins s σ H D I h
 refine wpAny_Assign_stores (thn (he pins s σ H _ I h) λv s1 ⟨x,H1,I1,r1,q1⟩=>?_) hs hw
 rw [h1]
 exact thn (hg pins s1 σ H1 x v _ I1 r1 q1) λ_ s2 q=>q
theorem uQ {i:Nat}{x:Str}{e:Expr}{te:TE}{pos':Pos}(hN:X.N.Nodup) (hi:X.N[i]? = some x) (hx:Loc X.env.scope x) (he:PE X e te) (hs:fJ e (some (.Name x pos')) pos.line X.env=pure false:=by rfl) (hf:X.fn x=true\/X.env.scope.names.lookup x=some .local:=by first | exact .inl rfl | exact .inr rfl | assumption) :
  PS X (.Assign [.Name x pos'] e pos) (YW te (wU i)):=by
 intro pins s σ H D I h
 refine wpAny_Assign_Name (thn (he pins s σ H _ I h) λv s1 ⟨y,H1,I1,r1,q1⟩=>?_) hs
 exact ww I1 hN hi hx r1 (λs2 I2=>⟨_,H1,I2,q1⟩) hf
theorem ju (i:Nat){x:Str}{e:Expr}{te:TE}{pos':Pos}(hN:X.N.Nodup) (he:PE X e te) (hi:X.N[i]?=some x:=by rfl) (hx:Loc X.env.scope x:=by exact aS rfl) (hs:fJ e (some (.Name x pos')) pos.line X.env=pure false:=by rfl) (hf:X.fn x=true\/X.env.scope.names.lookup x=some .local:=by first | exact .inl rfl | exact .inr rfl | assumption):PS X (.Assign [.Name x pos'] e pos) (YW te (wU i)):=uQ hN hi hx he hs hf
def tAug (i:Nat) (te:TE) (ti:TIp):TS:=λD σ H=>∃x,σ[i]? = some (some x)/\te σ H λy H1=>ti x y H1 λz H2=>D.nx (σ.set i (some z)) H2
theorem Qc {i:Nat}{x:Str}{e:Expr}{te:TE}{op:oU}{ti:TIp}{pos':Pos}(hN:X.N.Nodup) (hi:X.N[i]? = some x) (hx:Loc X.env.scope x) (he:PE X e te) (ho:PIp X op ti) (hf:X.fn x=true\/X.env.scope.names.lookup x=some .local:=by first | exact .inl rfl | exact .inr rfl | assumption) :
  PS X (.AugAssign (.Name x pos') op e pos) (tAug i te ti):=by
 intro pins s σ H D I h
 obtain ⟨v,e1,h⟩:=h
 obtain ⟨m,hn,hl⟩:=I.loc
 have vis:Vis X.env.scope x:=by rcases hx with k | k;exact .inl k;exact .inr (.inl k)
 obtain ⟨u,r,l⟩:=hl i x v hi e1 vis
 refine wpAny_AugAssign_Name ?_
 have go:ay (aA X.prog X.w) X.A (eval e X.env) (λw s₂=>ay (aA X.prog X.w) X.A (inplaceOp op u w) (λr s₃=>ay (aA X.prog X.w) X.A (oH X.env x r) (λ_=>SP X pins D .next) X.xe s₃) X.xe s₂) X.xe s:=by
  refine thn (he pins s σ H _ I h) λw s1 ⟨y,H1,I1,r1,q1⟩=>?_
  refine thn (ho pins s1 σ H1 v y u w _ I1 r r1 q1) λz s2 ⟨zv,H2,I2,r2,q2⟩=>?_
  exact ww I2 hN hi hx r2 (λs3 I3=>⟨_,H2,I3,q2⟩) hf
 rcases l with ⟨hk,hm⟩ | ⟨hk,c,hc,hcell⟩
 ·exact lh I.ok.kind hk hn hm go
 ·rcases hk with hk | hk
  ·exact lK I.ok.kind hk hc hcell go
  ·rcases hx with k | k
   ·have:X.env.scope.names.lookup x=some .free:=hk
    rw [k] at this;cases this
   ·have:X.env.scope.names.lookup x=some .free:=hk
    rw [k] at this;cases this
def ipI (f:Int->Int->Int):TIp:=λx y H Q=>∃i j,x = .int i/\y = .int j/\Q (.int (f i j)) H
theorem Qr:PIp X .Add (ipI λi j=>i+j):=by
 intro pins s σ H x y v u Q I r1 r2 h
 obtain ⟨i,j,e1,e2,q⟩:=h
 subst e1;subst e2
 obtain ⟨t,rfl⟩:=r1
 obtain ⟨t',rfl⟩:=r2
 exact iadd_int ⟨.int _,H,I.tok _,⟨_,rfl⟩,q⟩
end
section
variable {X:Cx}{pos:Pos}
def ZD (c:TT) (tb:TS):TS:=λD σ H=>∃W:Nat->St->Hp->Prop,(∃m,W m σ H)/\∀m σ H,W m σ H ->
 c σ H λb H1=>if b=true then ∃N:St->Hp->Prop,(∀σ' H',N σ' H'->∃m',m'<m/\W m' σ' H')/\tb { D with nx:=N,ct:=N,bk:=D.nx } σ H1 else D.nx σ H1
theorem Jq {c:Expr}{body:List Stmt}{tc:TT}{tb:TS}(hp:PassesOwn (aA X.prog X.w) X.A X.env X.xe) (hc:PT X c tc) (hb:PSs X body tb):PS X (.While c body [] pos) (ZD tc tb):=by
 intro pins s σ H D I h
 obtain ⟨W,⟨m0,w0⟩,turn⟩:=h
 refine wpAny_While (codeAny_whileLoop (λn s'=>∃σ' H',Inv X pins σ' H' s'/\W n σ' H') ?_ m0 ⟨σ,H,I,w0⟩)
 rintro n s1 ⟨σ1,H1,I1,w1⟩
 refine cP hp (thn (hc pins s1 σ1 H1 _ I1 (turn n σ1 H1 w1)) λb s2 ⟨H2,I2,q2⟩=>?_)
 cases b with
 | true =>
  obtain ⟨N,hN,q2⟩:=q2
  rw [if_pos rfl]
  refine cP hp (thn (hb pins s2 σ1 H2 _ I2 q2) λf s3 q3=>?_)
  cases f with
  | next =>
   obtain ⟨σ3,H3,I3,n3⟩:=q3
   obtain ⟨m',hm,w3⟩:=hN σ3 H3 n3
   exact ⟨m',hm,σ3,H3,I3,w3⟩
  | cont =>
   obtain ⟨σ3,H3,I3,n3⟩:=q3
   obtain ⟨m',hm,w3⟩:=hN σ3 H3 n3
   exact ⟨m',hm,σ3,H3,I3,w3⟩
  | brk=>exact q3
  | ret v=>exact q3
 | false =>
  rw [if_neg aq]
  exact ft ⟨σ1,H2,I2,q2⟩
end
structure It where
 go:Nat->Hp->Prop
 yld:Nat->Hp->V->Hp->Prop
 stop:Nat->Hp->Prop
def vN (X:Cx) (pins:List (Addr×Obj)) (H:Hp) (b:Addr):Prop :=
 H b=none/\b≠X.env.locals/\b∉X.fs/\(b∈X.ex\/X.s₀.heap.objs.size<=b)/\(∀x c,X.env.cells.lookup x=some c->c≠b)/\∀p∈X.pn++pins,p.1≠b
theorem Inv.fpOk {X:Cx}{pins:List (Addr×Obj)}{σ:St}{H H':Hp}{s:Shared}{b:Addr}(I:Inv X pins σ H s) (hb:s.heap.objs.size<=b) (hn:H' b=none):vN X pins H' b:=by
 refine ⟨hn,eF (aM I.lt hb),I.nofs hb,.inr (aG I.sz hb),λx c e z=>?_,λp hp z=>?_⟩
 ·obtain ⟨v,q⟩:=I.cell x c e
  exact absurd (aM q.lt (by rw [z];exact hb)) (bX _)
 ·exact absurd (aM (ax (I.pin p hp).1) (by rw [z];exact hb)) (bX _)
structure Turn (P:Program) (w:aX) (K:ai) (tg:Expr) (J:It) (fp:List Addr) (it:Addr) (tn:Nat->Heap->Prop):Prop where
 mem:it∈fp
 obj:∀i h,tn i h->∀b∈fp,∃o,h.get? b=some o/\∀v,o.data≠.cell v
 keep:∀i h h',tn i h->(∀b∈fp,∀o,h.get? b=some o->h'.get? b=some o)->tn i h'
 item:∀(X:Cx),X.prog=P->X.w=w->X.K=K->X.calm=true->∀(i:Nat) (pins:List (Addr×Obj)) (s:Shared) (σ:St) (H:Hp) (E:ae->Shared->Prop),Inv X pins σ H s->(∀b∈fp,vN X pins H b)->tn i s.heap->J.go i H ->
  ay (aA P w) X.A (lj (.ref it)) (λr s1=>∃u,r=some u /\
   ay (aA P w) X.A (cz tg (.ref it) u) (λ_ s2=>∃x H',Inv X pins σ H' s2/\jA x u/\J.yld i H x H'/\tn (i+1) s2.heap/\∀b∈fp,H' b=none) E s1) E s
 done:∀(X:Cx),X.prog=P->X.w=w->X.K=K->X.calm=true->∀(i:Nat) (pins:List (Addr×Obj)) (s:Shared) (σ:St) (H:Hp) (E:ae->Shared->Prop),Inv X pins σ H s->(∀b∈fp,vN X pins H b)->tn i s.heap->J.stop i H ->
  ay (aA P w) X.A (lj (.ref it)) (λr s1=>r=none/\Inv X pins σ H s1) E s
 self:∀(A:bg) (i:Nat) (s:Shared) (Q:ae->Shared->Prop) (E:ae->Shared->Prop),tn i s.heap->Q (.ref it) s->ay (aA P w) A (lU (.ref it)) Q E s
abbrev TI:=St->Hp->(It->Hp->Prop)->Prop
def PIE (X:Cx) (pins:List (Addr×Obj)) (σ:St) (tg:Expr) (R:It->Hp->Prop) (itv:ae) (s2:Shared):Prop :=
 ∃(it:Addr) (fp:List Addr) (tn:Nat->Heap->Prop) (J:It) (H':Hp),itv = .ref it/\Inv X pins σ H' s2/\Turn X.prog X.w X.K tg J fp it tn/\tn 0 s2.heap/\(∀b∈fp,vN X pins H' b)/\R J H'
def PI (X:Cx) (tg iter:Expr) (wi:TI):Prop :=
 ∀(pins:List (Addr×Obj)) (s:Shared) (σ:St) (H:Hp) (R:It->Hp->Prop),Inv X pins σ H s->wi σ H R ->
  ay (aA X.prog X.w) X.A (eval iter X.env) (λv s1=>ay (aA X.prog X.w) X.A (lU v) (PIE X pins σ tg R) X.xe s1) X.xe s
theorem Jg {M:ph}{A:bg}{E:ae->Shared->Prop}{s:Shared}{tg:Expr}{it:Addr}{u:ae}{o:Obj}{n:String}{vs:Array ae}{Q:Unit->Shared->Prop}(ho:s.heap.get? it=some o) (hc:o.cls = .type n) (hd:o.data = .fields vs)
  (hn:["enumerate","zip","dict_itemiterator","dict_reverseitemiterator","odict_iterator","itertools.zip_longest","itertools.pairwise"].contains n=false) (hQ:Q () s):ay M A (cz tg (.ref it) u) Q E s:=by
 unfold cz
 cases tg <;> first
  | exact wpAny_pure hQ
  | (cases u <;> first
    | exact wpAny_pure hQ
    | (refine ah (wpAny_load ho ?_)
       rw [hc,hd]
       show ay M A (if (["enumerate","zip","dict_itemiterator","dict_reverseitemiterator","odict_iterator","itertools.zip_longest","itertools.pairwise"].contains n && vs[0]? == some (bY _))=true then _ else _) Q E s
       rw [if_neg (by intro h;rw [hn,Bool.false_and] at h;cases h)]
       exact wpAny_pure hQ))
def Itl (K:ai) (a:Addr):It :=
 ⟨λi H=>∃xs x,SqL K H a xs/\xs[i]? = some x,λi H x H'=>H'=H/\∀xs,SqL K H a xs->xs[i]? = some x,λi H=>∃xs,SqL K H a xs/\xs.length<=i⟩
def Itt (K:ai) (a:Addr):It :=
 ⟨λi H=>∃xs x,SqT K H a xs/\xs[i]? = some x,λi H x H'=>H'=H/\∀xs,SqT K H a xs->xs[i]? = some x,λi H=>∃xs,SqT K H a xs/\xs.length<=i⟩
def Itr (lo:Int) (n:Nat):It:=⟨λi _=>i<n,λi H x H'=>H'=H/\x = .int (lo+i),λi _=>n<=i⟩
theorem XR {P:Program}{w:aX}{K:ai}{tg:Expr}(a it:Addr):Turn P w K tg (Itl K a) [it] it (λi h=>h.IsListIter it a i) where
 mem:=by simp
 obj:=λi h st b hb=>by
  have e:b=it:=by simpa using hb
  subst e
  obtain ⟨o,e,c,d⟩:=st
  exact ⟨o,e,λv z=>by rw [d] at z;cases z⟩
 keep:=λi h h' st k=>st.at λo e=>k it (by simp) o e
 item:=by
  intro X hP hw hK hc i pins s σ H E I hf st hg
  subst hP hw hK
  obtain ⟨xs,x,hq,hx⟩:=hg
  obtain ⟨its,rv,p,hz⟩:=I.list hq
  obtain ⟨u,hu,ru⟩:=rv.get hx
  obtain ⟨f0,f1,f2,f3,f4,f5⟩:=hf it (by simp)
  refine iF st p.isList (x:=u) (by simpa using hu) λh' st' sb=>?_
  have I1:Inv X pins σ H { s with heap:=h' }:=I.turned (t':=s.toks) (λb o hb e=>(sb.2 b hb).trans e) f0 f1 f3 f4 f5
  obtain ⟨o,e,c,d⟩:=id st'
  exact ⟨u,rfl,Jg (s:={ s with heap:=h' }) e c d ⋯ ⟨x,H,I1,ru,⟨rfl,λys hy=>by rw [I.list_inj hy hq];exact hx⟩,st',λb hb=>(hf b hb).1⟩⟩
 done:=by
  intro X hP hw hK hc i pins s σ H E I hf st hg
  subst hP hw hK
  obtain ⟨xs,hq,hx⟩:=hg
  obtain ⟨its,rv,p,hz⟩:=I.list hq
  obtain ⟨f0,f1,f2,f3,f4,f5⟩:=hf it (by simp)
  have hl:=rv.length
  exact iZ (I.ok.hd hc) st p.isList (by simp;omega) λh' eb=>⟨rfl,I.turned (t':=s.toks) (λb o hb e=>eb b o hb e) f0 f1 f3 f4 f5⟩
 self:=λ_ _ _ _ _ st h=>wpAny_pyIter_listiter st h
theorem Qh {P:Program}{w:aX}{K:ai}{tg:Expr}(a it:Addr):Turn P w K tg (Itt K a) [it] it (λi h=>h.IsTupleIter it a i) where
 mem:=by simp
 obj:=λi h st b hb=>by
  have e:b=it:=by simpa using hb
  subst e
  obtain ⟨o,e,c,d⟩:=st
  exact ⟨o,e,λv z=>by rw [d] at z;cases z⟩
 keep:=λi h h' st k=>st.at λo e=>k it (by simp) o e
 item:=by
  intro X hP hw hK hc i pins s σ H E I hf st hg
  subst hP hw hK
  obtain ⟨xs,x,hq,hx⟩:=hg
  obtain ⟨its,rv,p,hz⟩:=I.tuple hq
  obtain ⟨u,hu,ru⟩:=rv.get hx
  obtain ⟨f0,f1,f2,f3,f4,f5⟩:=hf it (by simp)
  refine wpAny_pyNext_tuple_item st (show s.heap.IsTuple a its.toArray from p) (x:=u) (by simpa using hu) λh' st' sb=>?_
  have I1:Inv X pins σ H { s with heap:=h' }:=I.turned (t':=s.toks) (λb o hb e=>(sb.2 b hb).trans e) f0 f1 f3 f4 f5
  obtain ⟨o,e,c,d⟩:=id st'
  exact ⟨u,rfl,Jg (s:={ s with heap:=h' }) e c d ⋯ ⟨x,H,I1,ru,⟨rfl,λys hy=>by rw [I.tuple_inj hy hq];exact hx⟩,st',λb hb=>(hf b hb).1⟩⟩
 done:=by
  intro X hP hw hK hc i pins s σ H E I hf st hg
  subst hP hw hK
  obtain ⟨xs,hq,hx⟩:=hg
  obtain ⟨its,rv,p,hz⟩:=I.tuple hq
  obtain ⟨f0,f1,f2,f3,f4,f5⟩:=hf it (by simp)
  have hl:=rv.length
  exact wpAny_pyNext_tuple_end (I.ok.hd hc) st (show s.heap.IsTuple a its.toArray from p) (by simp;omega) λh' eb=>⟨rfl,I.turned (t':=s.toks) (λb o hb e=>eb b o hb e) f0 f1 f3 f4 f5⟩
 self:=λ_ _ _ _ _ st h=>wpAny_pyIter_tupleiter st h
theorem uW {P:Program}{w:aX}{K:ai}{tg:Expr}(it:Addr) (lo:Int) (n:Nat):Turn P w K tg (Itr lo n) [it] it (λi h=>mR h it (lo+(i:Nat)*1) ((n:Int)-(i:Nat)) 1) where
 mem:=by simp
 obj:=λi h st b hb=>by
  have e:b=it:=by simpa using hb
  subst e
  exact ⟨_,st,λv z=>by
   have z':mS _=oI v:=z
   cases z'⟩
 keep:=λi h h' st k=>k it (by simp) _ st
 item:=by
  intro X hP hw hK hc i pins s σ H E I hf st hg
  subst hP hw hK
  obtain ⟨f0,f1,f2,f3,f4,f5⟩:=hf it (by simp)
  have W:=Walks.range (prog:=X.prog) (w:=X.w) (I.ok.hd hc) it lo 1 n
  refine W.item i s _ _ hg st λv h' tk hv st' kk=>?_
  obtain ⟨t,rfl⟩:=hv
  have I1:Inv X pins σ H { s with heap:=h',toks:=tk }:=I.turned (λb o hb e=>kk b o (by simpa using hb) e) f0 f1 f3 f4 f5
  refine ⟨_,rfl,Jg (s:={ s with heap:=h',toks:=tk }) (n:="range_iterator") st' rfl rfl ⋯ ⟨.int (lo+i),H,I1,⟨t,?_⟩,⟨rfl,rfl⟩,st',λb hb=>(hf b hb).1⟩⟩
  rw [Int.mul_one]
 done:=by
  intro X hP hw hK hc i pins s σ H E I hf st hg
  subst hP hw hK
  obtain ⟨f0,f1,f2,f3,f4,f5⟩:=hf it (by simp)
  exact wpAny_pyNext_range_end (I.ok.hd hc) st (by have:n<=i:=hg;omega) λh' eb=>⟨rfl,I.turned (t':=s.toks) (λb o hb e=>eb b o hb e) f0 f1 f3 f4 f5⟩
 self:=λ_ _ _ _ _ st h=>wpAny_pyIter_rangeiter st h
end L2
namespace L2
section
variable {X:Cx}{tg:Expr}
def Vq (K:ai) (tl:TE):TI:=λσ H R=>tl σ H λx H1=>∃a,x = .ref a/\(∃xs,SqL K H1 a xs)/\R (Itl K a) H1
def UV (K:ai) (tl:TE):TI:=λσ H R=>tl σ H λx H1=>∃a,x = .ref a/\(∃xs,SqT K H1 a xs)/\R (Itt K a) H1
theorem Ys {l:Expr}{tl:TE}(hl:PE X l tl):PI X tg l (Vq X.K tl):=by
 intro pins s σ H R I h
 refine thn (hl pins s σ H _ I h) λv s1 ⟨x,H1,I1,r1,q1⟩=>?_
 obtain ⟨a,e,⟨xs,hq⟩,q⟩:=q1
 subst e
 cases r1
 obtain ⟨its,rv,p,hz⟩:=I1.list hq
 refine eG p.isList ?_
 refine ⟨s1.heap.objs.size,[s1.heap.objs.size],_,_,H1,rfl,I1.kept (t':=s1.toks) λb o e=>aj _ e,XR a _,⟨_,aD _ rfl,rfl,rfl⟩,λb hb=>?_,q⟩
 have e:b=s1.heap.objs.size:=by simpa using hb
 subst e
 exact I1.fpOk (ao _) (I1.hok.fresh (ao _))
theorem Ug {l:Expr}{tl:TE}(hl:PE X l tl):PI X tg l (UV X.K tl):=by
 intro pins s σ H R I h
 refine thn (hl pins s σ H _ I h) λv s1 ⟨x,H1,I1,r1,q1⟩=>?_
 obtain ⟨a,e,⟨xs,hq⟩,q⟩:=q1
 subst e
 cases r1
 obtain ⟨its,rv,p,hz⟩:=I1.tuple hq
 refine wpAny_pyIter_tuple (show s1.heap.IsTuple a its.toArray from p) ?_
 refine ⟨s1.heap.objs.size,[s1.heap.objs.size],_,_,H1,rfl,I1.kept (t':=s1.toks) λb o e=>aj _ e,Qh a _,⟨_,aD _ rfl,rfl,rfl⟩,λb hb=>?_,q⟩
 have e:b=s1.heap.objs.size:=by simpa using hb
 subst e
 exact I1.fpOk (ao _) (I1.hok.fresh (ao _))
theorem Js {pins:List (Addr×Obj)}{σ:St}{H:Hp}{s:Shared}{R:It->Hp->Prop}{E:ae->Shared->Prop}{lo hi:Int}{t u v:Tok}{tk:Nat}(I:Inv X pins σ H s) (h1 : -(2 ^ 62)<=lo) (h2:lo<2 ^ 62) (h3 : -(2 ^ 62)<=hi) (h4:hi<2 ^ 62)
  (q:R (Itr lo (hi-lo).toNat) H):ay (aA X.prog X.w) X.A (lU (.ref s.heap.objs.size)) (PIE X pins σ tg R) E { s with heap:=s.heap.push { cls:=.type "range",data:=.fields #[.int lo t,.int hi u,.int 1 v] },toks:=tk }:=by
 refine lV (mT ..) (small_one h1 h2 h3 h4) ?_
 have I1:Inv X pins σ H { s with heap:=s.heap.push { cls:=.type "range",data:=.fields #[.int lo t,.int hi u,.int 1 v] },toks:=tk }:=I.kept λb o e=>aj _ e
 refine ⟨(s.heap.push { cls:=.type "range",data:=.fields #[.int lo t,.int hi u,.int 1 v] }).objs.size,[(s.heap.push { cls:=.type "range",data:=.fields #[.int lo t,.int hi u,.int 1 v] }).objs.size],_,_,H,rfl,
  I1.kept (t':=tk) λb o e=>aj _ e,uW _ lo (hi-lo).toNat,?_,λb hb=>?_,q⟩
 ·have e1:lo+((0:Nat):Int)*1=lo:=by simp
  have e2:(((hi-lo).toNat:Nat):Int)-((0:Nat):Int)=ij lo hi 1:=by rw [oz];split <;> omega
  show mR _ _ (lo+((0:Nat):Int)*1) ((((hi-lo).toNat:Nat):Int)-((0:Nat):Int)) 1
  rw [e1,e2]
  exact aD _ rfl
 ·have e:b=(s.heap.push { cls:=.type "range",data:=.fields #[.int lo t,.int hi u,.int 1 v] }).objs.size:=by simpa using hb
  subst e
  exact I1.fpOk (ao _) (I1.hok.fresh (ao _))
def UP (ta:TA):TI:=λσ H R=>ta σ H λvs H1=>∃j:Int,vs=[.int j] /\ -(2 ^ 62)<=j/\j<2 ^ 62/\R (Itr 0 j.toNat) H1
def UL (ta:TA):TI:=λσ H R=>ta σ H λvs H1=>∃i j:Int,vs=[.int i,.int j]/\(-(2 ^ 62)<=i/\i<2 ^ 62 /\ -(2 ^ 62)<=j/\j<2 ^ 62)/\R (Itr i (j-i).toNat) H1
theorem qw {a:Expr}{ta:TA}{p pos:Pos}(hg:Gl X "range") (hm:X.mg "range" = none) (ha:PA X [a] ta) (hs:aK [a] X.env=[(false,eval a X.env)]:=by rfl):PI X tg (.Call (.Name "range" p) [a] [] pos) (UP ta):=by
 intro pins s σ H R I h
 refine Call_ (y8 I hg hm nO (c0 (thn (ha pos pins s σ H _ I h) λus s1 ⟨vs,H1,I1,r1,q1⟩=>?_) hs rfl))
 obtain ⟨j,e,q1,q2,q⟩:=q1
 subst e
 cases r1 with
 | cons r rr =>
  cases rr
  obtain ⟨t,rfl⟩:=r
  exact call_range_1 (Js I1 ∅ ∅ q1 q2 (by simpa using q))
theorem XS {a b:Expr}{ta:TA}{p pos:Pos}(hg:Gl X "range") (hm:X.mg "range" = none) (ha:PA X [a,b] ta) (hs:aK [a,b] X.env=[(false,eval a X.env),(false,eval b X.env)]:=by rfl) (hs2:aK [b] X.env=[(false,eval b X.env)]:=by rfl) :
  PI X tg (.Call (.Name "range" p) [a,b] [] pos) (UL ta):=by
 intro pins s σ H R I h
 refine Call_ (y8 I hg hm nO (c0 (thn (ha pos pins s σ H _ I h) λus s1 ⟨vs,H1,I1,r1,q1⟩=>?_) (by rw [hs,hs2]) (by rw [hs2];rfl)))
 obtain ⟨i,j,e,⟨q1,q2,q3,q4⟩,q⟩:=q1
 subst e
 cases r1 with
 | cons r rr =>
  cases rr with
  | cons r' rr =>
   cases rr
   obtain ⟨t,rfl⟩:=r
   obtain ⟨t',rfl⟩:=r'
   exact call_range_2 (Js I1 q1 q2 q3 q4 q)
def tFor (wi:TI) (g:TG) (tb:TS):TS:=λD σ H=>wi σ H λJ H1=>∃W:Nat->Nat->St->Hp->Prop,(∃m,W 0 m σ H1)/\∀i m σ H,W i m σ H ->
 (J.stop i H/\D.nx σ H)\/(J.go i H/\∃N:St->Hp->Prop,(∀σ' H',N σ' H'->∃m',m'<m/\W (i+1) m' σ' H')/\∀x H',J.yld i H x H'->g x σ H' λσ2 H2=>tb { D with nx:=N,ct:=N,bk:=D.nx } σ2 H2)
def xP (fp:List Addr) (h:Heap):List (Addr×Obj):=fp.filterMap λb=>(h.get? b).map λo=>(b,o)
theorem qB {fp:List Addr}{h:Heap}{b:Addr}{o:Obj}(hb:b∈fp) (e:h.get? b=some o):(b,o)∈xP fp h:=List.mem_filterMap.mpr ⟨b,hb,by rw [e];rfl⟩
theorem Za {fp:List Addr}{h:Heap}{p:Addr×Obj}(hp:p∈xP fp h):p.1∈fp/\h.get? p.1=some p.2:=by
 obtain ⟨b,hb,e⟩:=List.mem_filterMap.mp hp
 cases q:h.get? b with
 | none=>rw [q] at e;cases e
 | some o =>
  rw [q] at e
  have e':(b,o)=p:=aR e
  subst e'
  exact ⟨hb,q⟩
theorem Inv.pinned {pins:List (Addr×Obj)}{σ:St}{H:Hp}{s:Shared}{fp:List Addr}(I:Inv X pins σ H s) (hf:∀b∈fp,vN X pins H b) (ho:∀b∈fp,∃o,s.heap.get? b=some o/\∀v,o.data≠.cell v):Inv X (pins++xP fp s.heap) σ H s :=
 I.pins_of λp hp=>(List.mem_append.mp hp).elim (λz=>I.pin p (aF _ z)) λz=>by
  obtain ⟨hb,e⟩:=Za z
  obtain ⟨f0,f1,f2,_⟩:=hf p.1 hb
  obtain ⟨o,e',d⟩:=ho p.1 hb
  rw [e] at e';cases e'
  exact ⟨e,f0,f1,f2,d⟩
theorem Inv.unpinned {pins pl:List (Addr×Obj)}{σ:St}{H:Hp}{s:Shared}(I:Inv X (pins++pl) σ H s):Inv X pins σ H s:=I.pins_of λp hp=>I.pin p (aF _ (fj _ hp))
theorem xh {iter:Expr}{body:List Stmt}{wi:TI}{g:TG}{tb:TS}{pos:Pos}(hp:PassesOwn (aA X.prog X.w) X.A X.env X.xe) (hc:X.calm=true) (hi:PI X tg iter wi) (hg:PG X tg g) (hb:PSs X body tb)
  (hs:∀x,c3 iter X.env x=pure x:=by intro _;rfl):PS X (.For tg iter body [] pos) (tFor wi g tb):=by
 intro pins s σ H D I h
 refine wpAny_For (thn (hi pins s σ H _ I h) λv s1 h1=>thn h1 λitv s2 h2=>?_) hs
 obtain ⟨it,fp,tn,J,H2,e,I2,T,st2,f2,W,⟨m0,w0⟩,turn⟩:=h2
 subst e
 have stat:∀{H':Hp},(∀b∈fp,H' b=none)->∀b∈fp,vN X pins H' b:=λhn b hb=>⟨hn b hb,(f2 b hb).2⟩
 refine codeAny_forLoop_any (λn s'=>∃i σ' H',Inv X pins σ' H' s'/\tn i s'.heap/\(∀b∈fp,H' b=none)/\W i n σ' H') ?_ m0 ⟨0,σ,H2,I2,st2,λb hb=>(f2 b hb).1,w0⟩
 rintro n s3 ⟨i,σ3,H3,I3,st3,fr3,w3⟩
 rcases turn i n σ3 H3 w3 with ⟨stop,qn⟩ | ⟨go,N,hN,step⟩
 ·refine cP hp (thn (T.done X rfl rfl rfl hc i pins s3 σ3 H3 X.xe I3 (stat fr3) st3 stop) λr s4 ⟨hr,I4⟩=>?_)
  subst hr
  exact ft ⟨σ3,H3,I4,qn⟩
 ·refine cP hp (thn (T.item X rfl rfl rfl hc i pins s3 σ3 H3 X.xe I3 (stat fr3) st3 go) λr s4 ⟨u,hr,h4⟩=>?_)
  subst hr
  refine cP hp (thn h4 λ_ s5 ⟨x,H5,I5,r5,y5,st5,fr5⟩=>?_)
  have I5':=I5.pinned (stat fr5) (T.obj _ _ st5)
  refine cP hp (thn (hg _ s5 σ3 H5 x u _ I5' r5 (step x H5 y5)) λ_ s6 ⟨σ6,H6,I6,q6⟩=>?_)
  refine cP hp (thn (hb _ s6 σ6 H6 _ I6 q6) λf s7 q7=>?_)
  have again:∀{σ7:St} {H7:Hp},Inv X (pins++xP fp s5.heap) σ7 H7 s7->N σ7 H7->∃m,m<n/\∃i σ' H',Inv X pins σ' H' s7/\tn i s7.heap/\(∀b∈fp,H' b=none)/\W i m σ' H':=λ{σ7 H7} I7 n7=>by
   obtain ⟨m',hm,w7⟩:=hN σ7 H7 n7
   refine ⟨m',hm,i+1,σ7,H7,I7.unpinned,T.keep _ _ _ st5 λb hb o e=>(I7.pin (b,o) (aF _ (aF _ (qB hb e)))).1,λb hb=>?_,w7⟩
   obtain ⟨o,e,d⟩:=T.obj _ _ st5 b hb
   exact (I7.pin (b,o) (aF _ (aF _ (qB hb e)))).2.1
  cases f with
  | next=>obtain ⟨σ7,H7,I7,n7⟩:=q7;exact again I7 n7
  | cont=>obtain ⟨σ7,H7,I7,n7⟩:=q7;exact again I7 n7
  | brk=>obtain ⟨σ7,H7,I7,q7⟩:=q7;exact ⟨σ7,H7,I7.unpinned,q7⟩
  | ret v=>obtain ⟨x7,σ7,H7,I7,r7,q7⟩:=q7;exact ⟨x7,σ7,H7,I7.unpinned,r7,q7⟩
end
theorem vg {K:ai}{a:Addr}{xs:List V}{g:TG}{tb:TS}{D:Ends}{σ:St}{H:Hp}(Pv:Nat->St->Hp->Prop) (h0:Pv 0 σ H) (hl:∀i σ H,i<=xs.length->Pv i σ H->SqL K H a xs)
  (hs:∀i x σ H,xs[i]? = some x->Pv i σ H->g x σ H λσ2 H2=>tb { D with nx:=Pv (i+1),ct:=Pv (i+1),bk:=D.nx } σ2 H2) (hd:∀σ H,Pv xs.length σ H->D.nx σ H) :
  ∃W:Nat->Nat->St->Hp->Prop,(∃m,W 0 m σ H)/\∀i m σ H,W i m σ H ->
   ((Itl K a).stop i H/\D.nx σ H)\/((Itl K a).go i H/\∃N:St->Hp->Prop,(∀σ' H',N σ' H'->∃m',m'<m/\W (i+1) m' σ' H')/\∀x H',(Itl K a).yld i H x H'->g x σ H' λσ2 H2=>tb { D with nx:=N,ct:=N,bk:=D.nx } σ2 H2):=by
 refine ⟨λi m σ H=>m=xs.length-i/\i<=xs.length/\Pv i σ H,⟨xs.length,by simp,aJ _,h0⟩,?_⟩
 rintro i m σ H ⟨rfl,hi,p⟩
 have q:=hl i σ H hi p
 by_cases hlt:i<xs.length
 ·refine .inr ⟨⟨xs,xs[i],q,by simp [hlt]⟩,Pv (i+1),λσ' H' p'=>⟨xs.length-(i+1),∅,rfl,hlt,p'⟩,λx H' y=>?_⟩
  obtain ⟨e,y⟩:=y
  subst e
  exact hs i x σ _ (y xs q) p
 ·have e:i=xs.length:=∅
  subst e
  exact .inl ⟨⟨xs,q,ao _⟩,hd σ H p⟩
theorem V4 {K:ai}{a:Addr}{xs:List V}{g:TG}{tb:TS}{D:Ends}{σ:St}{H:Hp}(Pv:Nat->St->Hp->Prop) (h0:Pv 0 σ H) (hl:∀i σ H,i<=xs.length->Pv i σ H->SqT K H a xs)
  (hs:∀i x σ H,xs[i]? = some x->Pv i σ H->g x σ H λσ2 H2=>tb { D with nx:=Pv (i+1),ct:=Pv (i+1),bk:=D.nx } σ2 H2) (hd:∀σ H,Pv xs.length σ H->D.nx σ H) :
  ∃W:Nat->Nat->St->Hp->Prop,(∃m,W 0 m σ H)/\∀i m σ H,W i m σ H ->
   ((Itt K a).stop i H/\D.nx σ H)\/((Itt K a).go i H/\∃N:St->Hp->Prop,(∀σ' H',N σ' H'->∃m',m'<m/\W (i+1) m' σ' H')/\∀x H',(Itt K a).yld i H x H'->g x σ H' λσ2 H2=>tb { D with nx:=N,ct:=N,bk:=D.nx } σ2 H2):=by
 refine ⟨λi m σ H=>m=xs.length-i/\i<=xs.length/\Pv i σ H,⟨xs.length,by simp,aJ _,h0⟩,?_⟩
 rintro i m σ H ⟨rfl,hi,p⟩
 have q:=hl i σ H hi p
 by_cases hlt:i<xs.length
 ·refine .inr ⟨⟨xs,xs[i],q,by simp [hlt]⟩,Pv (i+1),λσ' H' p'=>⟨xs.length-(i+1),∅,rfl,hlt,p'⟩,λx H' y=>?_⟩
  obtain ⟨e,y⟩:=y
  subst e
  exact hs i x σ _ (y xs q) p
 ·have e:i=xs.length:=∅
  subst e
  exact .inl ⟨⟨xs,q,ao _⟩,hd σ H p⟩
theorem xJ {lo:Int}{n:Nat}{g:TG}{tb:TS}{D:Ends}{σ:St}{H:Hp}(Pv:Nat->St->Hp->Prop) (h0:Pv 0 σ H)
  (hs:∀i σ H,i<n->Pv i σ H->g (.int (lo+i)) σ H λσ2 H2=>tb { D with nx:=Pv (i+1),ct:=Pv (i+1),bk:=D.nx } σ2 H2) (hd:∀σ H,Pv n σ H->D.nx σ H) :
  ∃W:Nat->Nat->St->Hp->Prop,(∃m,W 0 m σ H)/\∀i m σ H,W i m σ H ->
   ((Itr lo n).stop i H/\D.nx σ H)\/((Itr lo n).go i H/\∃N:St->Hp->Prop,(∀σ' H',N σ' H'->∃m',m'<m/\W (i+1) m' σ' H')/\∀x H',(Itr lo n).yld i H x H'->g x σ H' λσ2 H2=>tb { D with nx:=N,ct:=N,bk:=D.nx } σ2 H2):=by
 refine ⟨λi m σ H=>m=n-i/\i<=n/\Pv i σ H,⟨n,by simp,aJ _,h0⟩,?_⟩
 rintro i m σ H ⟨rfl,hi,p⟩
 by_cases hlt:i<n
 ·refine .inr ⟨hlt,Pv (i+1),λσ' H' p'=>⟨n-(i+1),∅,rfl,hlt,p'⟩,λx H' y=>?_⟩
  obtain ⟨e,y⟩:=y
  subst e y
  exact hs i σ _ hlt p
 ·have e:i=n:=∅
  subst e
  exact .inl ⟨ao _,hd σ H p⟩
theorem gS {c:TT}{tb:TS}{D:Ends}{σ:St}{H:Hp}(Pv:St->Hp->Prop) (μ:St->Hp->Nat) (h0:Pv σ H)
  (hs:∀σ H,Pv σ H->c σ H λb H1=>if b=true then tb { D with nx:=λσ' H'=>Pv σ' H'/\μ σ' H'<μ σ H,ct:=λσ' H'=>Pv σ' H'/\μ σ' H'<μ σ H,bk:=D.nx } σ H1 else D.nx σ H1)
  (mono:∀σ H Q Q',(∀b H1,Q b H1->Q' b H1)->c σ H Q->c σ H Q'):ZD c tb D σ H:=by
 refine ⟨λm σ H=>m=μ σ H/\Pv σ H,⟨_,rfl,h0⟩,?_⟩
 rintro m σ H ⟨rfl,p⟩
 refine mono σ H _ _ (λb H1 q=>?_) (hs σ H p)
 cases b with
 | true=>exact ⟨_,λσ' H' ⟨p',l⟩=>⟨_,l,rfl,p'⟩,q⟩
 | false=>exact q
end L2
namespace L2
abbrev R2:=V->V->Hp->VK->Prop
def OpR (X:Cx) (f:ae->ae->Sem ae) (r:R2):Prop :=
 ∀(pins:List (Addr×Obj)) (s:Shared) (σ:St) (H:Hp) (x y:V) (v u:ae) (Q:VK),Inv X pins σ H s->jA x v->jA y u->r x y H Q ->
  ay (aA X.prog X.w) X.A (f v u) (EP X pins σ Q) X.xe s
def UnR (X:Cx) (f:ae->Sem ae) (r:V->Hp->VK->Prop):Prop :=
 ∀(pins:List (Addr×Obj)) (s:Shared) (σ:St) (H:Hp) (x:V) (v:ae) (Q:VK),Inv X pins σ H s->jA x v->r x H Q ->
  ay (aA X.prog X.w) X.A (f v) (EP X pins σ Q) X.xe s
def qA (X:Cx) (f:ae) (r:List V->Hp->VK->Prop):Prop :=
 ∀(pins:List (Addr×Obj)) (s:Shared) (σ:St) (H:Hp) (xs:List V) (us:List ae) (Q:VK),Inv X pins σ H s->jz xs us->r xs H Q ->
  ay (aA X.prog X.w) X.A (call f us) (EP X pins σ Q) X.xe s
def tOp (r:R2) (ta tb:TE):TE:=λσ H Q=>ta σ H λx H1=>tb σ H1 λy H2=>r x y H2 Q
def tUn (r:V->Hp->VK->Prop) (ta:TE):TE:=λσ H Q=>ta σ H λx H1=>r x H1 Q
def rI (C:Int->Int->Prop) (g:Int->Int->V):R2:=λx y H Q=>∃i j,x = .int i/\y = .int j/\C i j/\Q (g i j) H
def rI0 (g:Int->Int->V):R2:=λx y H Q=>∃i j,x = .int i/\y = .int j/\Q (g i j) H
def rU (g:Int->V):V->Hp->VK->Prop:=λx H Q=>∃i,x = .int i/\Q (g i) H
section
variable {X:Cx}{a b c:Expr}{ta tb tc:TE}{pos:Pos}
theorem Ua (ha:PE X a ta) (hb:PE X b tb) {pins:List (Addr×Obj)}{s:Shared}{σ:St}{H:Hp}{R:V->V->Hp->Prop}(I:Inv X pins σ H s)
  (h:ta σ H λx H1=>tb σ H1 λy H2=>R x y H2) {Q:ae->Shared->Prop} {f:ae->ae->Sem ae}
  (hf:∀v u s2 x y H2,Inv X pins σ H2 s2->jA x v->jA y u->R x y H2->ay (aA X.prog X.w) X.A (f v u) Q X.xe s2) :
  ay (aA X.prog X.w) X.A (eval a X.env) (λv s₁=>ay (aA X.prog X.w) X.A (eval b X.env) (λu s₂=>ay (aA X.prog X.w) X.A (f v u) Q X.xe s₂) X.xe s₁) X.xe s:=by
 refine thn (ha pins s σ H _ I h) λv s1 ⟨x,H1,I1,r1,q1⟩=>?_
 refine thn (hb pins s1 σ H1 _ I1 q1) λu s2 ⟨y,H2,I2,r2,q2⟩=>?_
 exact hf v u s2 x y H2 I2 r1 r2 q2
theorem jo {op:oU}{r:R2}(ho:OpR X (fk op) r) (ha:PE X a ta) (hb:PE X b tb):PE X (.BinOp a op b pos) (tOp r ta tb):=by
 intro pins s σ H Q I h
 exact wpAny_BinOp (Ua ha hb I h λv u s2 x y H2 I2 rx ry q=>ho pins s2 σ H2 x y v u Q I2 rx ry q)
theorem uK {op:UnaryOp}{r:V->Hp->VK->Prop}(ho:UnR X (unaryOp op) r) (ha:PE X a ta):PE X (.UnaryOp op a pos) (tUn r ta):=by
 intro pins s σ H Q I h
 exact UnaryOp_ (thn (ha pins s σ H _ I h) λv s1 ⟨x,H1,I1,r1,q1⟩=>ho pins s1 σ H1 x v Q I1 r1 q1)
theorem opI {f:ae->ae->Sem ae}{C:Int->Int->Prop}{g:Int->Int->Int}
  (rule:∀(i j:Int) (t u:Tok) (s:Shared) (Q:ae->Shared->Prop) (E:ae->Shared->Prop),C i j->Q (.int (g i j) s.toks) { s with toks:=s.toks+1 }->ay (aA X.prog X.w) X.A (f (.int i t) (.int j u)) Q E s) :
  OpR X f (rI C λi j=>.int (g i j)):=by
 intro pins s σ H x y v u Q I rx ry h
 obtain ⟨i,j,rfl,rfl,hc,q⟩:=h
 obtain ⟨t,rfl⟩:=rx
 obtain ⟨t',rfl⟩:=ry
 exact rule i j t t' s _ _ hc ⟨.int (g i j),H,I.tok _,⟨_,rfl⟩,q⟩
theorem UB {f:ae->ae->Sem ae}{g:Int->Int->Int}
  (rule:∀(i j:Int) (t u:Tok) (s:Shared) (Q:ae->Shared->Prop) (E:ae->Shared->Prop),Q (.int (g i j) s.toks) { s with toks:=s.toks+1 }->ay (aA X.prog X.w) X.A (f (.int i t) (.int j u)) Q E s) :
  OpR X f (rI0 λi j=>.int (g i j)):=by
 intro pins s σ H x y v u Q I rx ry h
 obtain ⟨i,j,rfl,rfl,q⟩:=h
 obtain ⟨t,rfl⟩:=rx
 obtain ⟨t',rfl⟩:=ry
 exact rule i j t t' s _ _ ⟨.int (g i j),H,I.tok _,⟨_,rfl⟩,q⟩
theorem YH {f:ae->ae->Sem ae}{g:Int->Int->Bool}
  (rule:∀(i j:Int) (t u:Tok) (s:Shared) (Q:ae->Shared->Prop) (E:ae->Shared->Prop),Q (.bool (g i j)) s->ay (aA X.prog X.w) X.A (f (.int i t) (.int j u)) Q E s) :
  OpR X f (rI0 λi j=>.bl (g i j)):=by
 intro pins s σ H x y v u Q I rx ry h
 obtain ⟨i,j,rfl,rfl,q⟩:=h
 obtain ⟨t,rfl⟩:=rx
 obtain ⟨t',rfl⟩:=ry
 exact rule i j t t' s _ _ ⟨.bl (g i j),H,I,rfl,q⟩
def Wd (i j:Int):Prop:=0<=j/\j<=1000000/\i.natAbs<2 ^ 64
def ZG (i j:Int):Prop:=(-(2 ^ 64)<i/\i<2 ^ 64)\/(-(2 ^ 64)<j/\j<2 ^ 64)
theorem ZG.ok {i j:Int}(h:ZG i j):IntMulOk i j:=by
 rcases h with ⟨h1,h2⟩ | ⟨h1,h2⟩
 ·exact .of_left (oA h1 h2)
 ·exact .of_right (oA h1 h2)
theorem jJ:OpR X (fk .Add) (rI0 λi j=>.int (i+j)):=UB λ_ _ _ _ _ _ _ q=>add_int q
theorem xk:OpR X (fk .Sub) (rI0 λi j=>.int (i-j)):=UB λ_ _ _ _ _ _ _ q=>sub_int q
theorem ub:OpR X (fk .Mult) (rI ZG λi j=>.int (i*j)):=opI λ_ _ _ _ _ _ _ hc q=>mul_int q hc.ok
theorem xn:OpR X (fk .Mod) (rI (λ_ j=>0<j) λi j=>.int (i % j)):=opI λi j _ _ _ _ _ hc q=>by
 have h1:(0:Int)<j:=hc
 exact mod_int' ∅ (by rw [Int.fmod_eq_emod_of_nonneg i ∅];exact q)
theorem gC:OpR X (fk .Pow) (rI Wd λi j=>.int (i ^ j.toNat)):=opI λ_ _ _ _ _ _ _ hc q=>pow_int_small hc.1 hc.2.1 hc.2.2 q
theorem unI {f:ae->Sem ae}{g:Int->Int}
  (rule:∀(i:Int) (t:Tok) (s:Shared) (Q:ae->Shared->Prop) (E:ae->Shared->Prop),Q (.int (g i) s.toks) { s with toks:=s.toks+1 }->ay (aA X.prog X.w) X.A (f (.int i t)) Q E s) :
  UnR X f (rU λi=>.int (g i)):=by
 intro pins s σ H x v Q I rx h
 obtain ⟨i,rfl,q⟩:=h
 obtain ⟨t,rfl⟩:=rx
 exact rule i t s _ _ ⟨.int (g i),H,I.tok _,⟨_,rfl⟩,q⟩
theorem yL:UnR X (unaryOp .USub) (rU λi=>.int (-i)):=unI λ_ _ _ _ _ q=>neg_int q
end
def Ut:V->V->Bool
 | .non,.non=>true | .non,.int _=>true | .int _,.non=>true | .non,.bl _=>true | .bl _,.non=>true | .non,.str _=>true | .str _,.non=>true
 | .int _,.int _=>true | .bl _,.bl _=>true | .str _,.str _=>true | .byt _,.byt _=>true
 | .int _,.str _=>true | .str _,.int _=>true | .bl _,.str _=>true | .str _,.bl _=>true
 | _,_=>false
def rEq:R2:=λx y H Q=>Ut x y=true/\Q (.bl (decide (x=y))) H
def rNe:R2:=λx y H Q=>Ut x y=true/\Q (.bl (!decide (x=y))) H
theorem QT {i j:Int}:decide (V.int i=V.int j)=(i == j):=by
 rw [di]
 simp
theorem Yc {i j:Bool}:decide (V.bl i=V.bl j)=(i == j):=by
 rw [di]
 simp
theorem Xj {i j:Str}:decide (V.str i=V.str j)=(i == j):=by
 rw [di]
 simp
theorem QU {i j:Array UInt8}:decide (V.byt i=V.byt j)=(i.toList == j.toList):=by
 rw [di]
 cases i
 cases j
 simp
section
variable {X:Cx}{a b c:Expr}{ta tb tc:TE}{pos:Pos}
theorem jE {pins:List (Addr×Obj)}{σ:St}{H:Hp}{s:Shared}{Q:VK}{k k':Bool}(I:Inv X pins σ H s) (q:Q (.bl k) H) (e:k=k'):EP X pins σ Q (.bool k') s:=by
 subst e
 exact ⟨.bl k,H,I,rfl,q⟩
theorem wg:OpR X (bQ .Eq) rEq:=by
 intro pins s σ H x y v u Q I rx ry h
 obtain ⟨hs,q⟩:=h
 cases x with
 | non =>
  cases rx
  cases y with
  | non=>cases ry;exact PySem.EqNone.eq_none_none (jE I q (by simp))
  | bl j=>cases ry;exact PySem.EqNone.eq_none_bool (jE I q (by simp))
  | int j=>obtain ⟨t',rfl⟩:=ry;exact PySem.EqNone.eq_none_int (jE I q (by simp))
  | str j=>obtain ⟨t',rfl⟩:=ry;exact PySem.EqNone.eq_none_str (jE I q (by simp))
  | _=>exact absurd (show false=true from hs) aq
 | bl i =>
  cases rx
  cases y with
  | non=>cases ry;exact PySem.EqNone.eq_bool_none (jE I q (by simp))
  | bl j=>cases ry;exact eq_bool (jE I q Yc)
  | str j=>obtain ⟨t',rfl⟩:=ry;exact PySem.EqMixed.eq_bool_str (jE I q (by simp))
  | _=>exact absurd (show false=true from hs) aq
 | int i =>
  obtain ⟨t,rfl⟩:=rx
  cases y with
  | non=>cases ry;exact PySem.EqNone.eq_int_none (jE I q (by simp))
  | int j=>obtain ⟨t',rfl⟩:=ry;exact eq_int (jE I q QT)
  | str j=>obtain ⟨t',rfl⟩:=ry;exact PySem.EqMixed.eq_int_str (jE I q (by simp))
  | _=>exact absurd (show false=true from hs) aq
 | str i =>
  obtain ⟨t,rfl⟩:=rx
  cases y with
  | non=>cases ry;exact PySem.EqNone.eq_str_none (jE I q (by simp))
  | bl j=>cases ry;exact PySem.EqMixed.eq_str_bool (jE I q (by simp))
  | int j=>obtain ⟨t',rfl⟩:=ry;exact PySem.EqMixed.eq_str_int (jE I q (by simp))
  | str j=>obtain ⟨t',rfl⟩:=ry;exact eq_str (jE I q Xj)
  | _=>exact absurd (show false=true from hs) aq
 | byt i =>
  obtain ⟨t,rfl⟩:=rx
  cases y with
  | byt j=>obtain ⟨t',rfl⟩:=ry;exact PySem.W.eq_bytes (jE I q QU)
  | _=>exact absurd (show false=true from hs) aq
 | _=>cases y <;> exact absurd (show false=true from hs) aq
theorem UD:OpR X (bQ .NotEq) rNe:=by
 intro pins s σ H x y v u Q I rx ry h
 obtain ⟨hs,q⟩:=h
 cases x with
 | non =>
  cases rx
  cases y with
  | non=>cases ry;exact PySem.EqNone.ne_none_none (jE I q (by simp))
  | bl j=>cases ry;exact PySem.EqNone.ne_none_bool (jE I q (by simp))
  | int j=>obtain ⟨t',rfl⟩:=ry;exact PySem.EqNone.ne_none_int (jE I q (by simp))
  | str j=>obtain ⟨t',rfl⟩:=ry;exact PySem.EqNone.ne_none_str (jE I q (by simp))
  | _=>exact absurd (show false=true from hs) aq
 | bl i =>
  cases rx
  cases y with
  | non=>cases ry;exact PySem.EqNone.ne_bool_none (jE I q (by simp))
  | bl j=>cases ry;exact ne_bool (jE I q (congrArg not Yc))
  | str j=>obtain ⟨t',rfl⟩:=ry;exact PySem.EqMixed.ne_bool_str (jE I q (by simp))
  | _=>exact absurd (show false=true from hs) aq
 | int i =>
  obtain ⟨t,rfl⟩:=rx
  cases y with
  | non=>cases ry;exact PySem.EqNone.ne_int_none (jE I q (by simp))
  | int j=>obtain ⟨t',rfl⟩:=ry;exact ne_int (jE I q (congrArg not QT))
  | str j=>obtain ⟨t',rfl⟩:=ry;exact PySem.EqMixed.ne_int_str (jE I q (by simp))
  | _=>exact absurd (show false=true from hs) aq
 | str i =>
  obtain ⟨t,rfl⟩:=rx
  cases y with
  | non=>cases ry;exact PySem.EqNone.ne_str_none (jE I q (by simp))
  | bl j=>cases ry;exact PySem.EqMixed.ne_str_bool (jE I q (by simp))
  | int j=>obtain ⟨t',rfl⟩:=ry;exact PySem.EqMixed.ne_str_int (jE I q (by simp))
  | str j=>obtain ⟨t',rfl⟩:=ry;exact ne_str (jE I q (congrArg not Xj))
  | _=>exact absurd (show false=true from hs) aq
 | byt i =>
  obtain ⟨t,rfl⟩:=rx
  cases y with
  | byt j=>obtain ⟨t',rfl⟩:=ry;exact PySem.W.ne_bytes (jE I q (congrArg not QU))
  | _=>exact absurd (show false=true from hs) aq
 | _=>cases y <;> exact absurd (show false=true from hs) aq
theorem yw:OpR X (bQ .Lt) (rI0 λi j=>.bl (decide (i<j))):=YH λ_ _ _ _ _ _ _ q=>lt_int q
theorem qq:OpR X (bQ .LtE) (rI0 λi j=>.bl (decide (i<=j))):=YH λ_ _ _ _ _ _ _ q=>le_int q
theorem UR:OpR X (bQ .Gt) (rI0 λi j=>.bl (decide (j<i))):=YH λ_ _ _ _ _ _ _ q=>gt_int q
theorem Jt:OpR X (bQ .GtE) (rI0 λi j=>.bl (decide (j<=i))):=YH λ_ _ _ _ _ _ _ q=>ge_int q
theorem VP:OpR X (bQ .Is) (λx y H Q=>y = .non/\Q (.bl (decide (x = .non))) H):=by
 intro pins s σ H x y v u Q I rx ry h
 obtain ⟨rfl,q⟩:=h
 cases ry
 refine is_none_gen (jE I q ?_)
 cases x <;> first
  | (cases rx;rfl)
  | (obtain ⟨t,rfl⟩:=rx;rfl)
theorem qe (b:Expr) {op:nN}(h:op≠.In:=by decide) (h2:op≠.NotIn:=by decide):dq op b=false:=by
 have e1:(op == CmpOp.In)=false:=by cases op <;> first | rfl | exact absurd rfl h
 have e2:(op == CmpOp.NotIn)=false:=by cases op <;> first | rfl | exact absurd rfl h2
 cases b <;> simp [dq,e1,e2]
theorem gy {op:nN}{r:R2}(ho:OpR X (bQ op) r) (ha:PE X a ta) (hb:PE X b tb) (hm:dq op b=false):PE X (.Compare a [op] [b] pos) (tOp r ta tb):=by
 intro pins s σ H Q I h
 exact wpAny_Compare1 (Ua ha hb I h λv u s2 x y H2 I2 rx ry q=>ho pins s2 σ H2 x y v u Q I2 rx ry q) hm
def Xm (t:TE):TT:=λσ H Q=>t σ H λx H'=>∃k,x = .bl k/\Q k H'
theorem jI {op:nN}{r:R2}(ho:OpR X (bQ op) r) (ha:PE X a ta) (hb:PE X b tb) (hm:dq op b=false):PT X (.Compare a [op] [b] pos) (Xm (tOp r ta tb)):=by
 intro pins s σ H Q I h
 refine iY (thn (ha pins s σ H _ I h) λv s1 ⟨x,H1,I1,r1,q1⟩=>thn (hb pins s1 σ H1 _ I1 q1) λu s2 ⟨y,H2,I2,r2,q2⟩ =>
  thn (ho pins s2 σ H2 x y v u _ I2 r1 r2 q2) λc s3 ⟨z,H3,I3,r3,k,e,q3⟩=>?_) hm
 subst e
 cases r3
 exact bU ⟨H3,I3,q3⟩
def Y4 (r r':R2) (ta tb tc:TE):TE:=λσ H Q=>ta σ H λx H1=>tb σ H1 λy H2=>r x y H2 λz H3=>∃k,z = .bl k /\
 (if k=true then tc σ H3 λw' H4=>r' y w' H4 Q else Q (.bl false) H3)
theorem zx {op op':nN}{r r':R2}(ho:OpR X (bQ op) r) (ho':OpR X (bQ op') r') (ha:PE X a ta) (hb:PE X b tb) (hc:PE X c tc)
  (hm:lastMarks [op,op'] [b,c]=false:=by with_unfolding_all rfl):PE X (.Compare a [op,op'] [b,c] pos) (Y4 r r' ta tb tc):=by
 intro pins s σ H Q I h
 refine Compare_chain (thn (ha pins s σ H _ I h) λv s1 ⟨x,H1,I1,r1,q1⟩=>chain_link (thn (hb pins s1 σ H1 _ I1 q1) λu s2 ⟨y,H2,I2,r2,q2⟩ =>
  thn (ho pins s2 σ H2 x y v u _ I2 r1 r2 q2) λd s3 ⟨z,H3,I3,r3,k,e,q3⟩=>?_)) hm
 subst e
 cases r3
 refine bU ?_
 cases k with
 | false=>exact ite_ff ⟨.bl false,H3,I3,rfl,q3⟩
 | true=>exact ite_tt (chain_last (thn (hc pins s3 σ H3 _ I3 q3) λw' s4 ⟨z',H4,I4,r4,q4⟩=>ho' pins s4 σ H4 y z' u w' Q I4 r2 r4 q4))
theorem x5 {op op':nN}{r r':R2}(ho:OpR X (bQ op) r) (ho':OpR X (bQ op') r') (ha:PE X a ta) (hb:PE X b tb) (hc:PE X c tc)
  (hm:lastMarks [op,op'] [b,c]=false:=by with_unfolding_all rfl):PT X (.Compare a [op,op'] [b,c] pos) (Xm (Y4 r r' ta tb tc)):=by
 intro pins s σ H Q I h
 refine isTrue_chain (thn (ha pins s σ H _ I h) λv s1 ⟨x,H1,I1,r1,q1⟩=>test_link (thn (hb pins s1 σ H1 _ I1 q1) λu s2 ⟨y,H2,I2,r2,q2⟩ =>
  thn (ho pins s2 σ H2 x y v u _ I2 r1 r2 q2) λd s3 ⟨z,H3,I3,r3,k,e,q3⟩=>?_)) hm
 subst e
 cases r3
 refine bU ?_
 cases k with
 | false =>
  obtain ⟨k',e',q'⟩:=q3
  cases e'
  exact ite_ff ⟨H3,I3,q'⟩
 | true =>
  refine ite_tt (test_last (thn (hc pins s3 σ H3 _ I3 q3) λw' s4 ⟨z',H4,I4,r4,q4⟩=>thn (ho' pins s4 σ H4 y z' u w' _ I4 r2 r4 q4) λd' s5 ⟨z2,H5,I5,r5,k2,e2,q5⟩=>?_))
  subst e2
  cases r5
  exact bU ⟨H5,I5,q5⟩
theorem kW:(sizeLine:Nat)<2 ^ 63:=by rw [bu];decide
theorem zt {x:V}{us:List ae}(r:jz [x] us):∃u,us=[u]/\jA x u:=by
 cases r with
 | cons r1 r2=>cases r2;exact ⟨_,rfl,r1⟩
theorem Zr {x y:V}{us:List ae}(r:jz [x,y] us):∃u w',us=[u,w']/\jA x u/\jA y w':=by
 cases r with
 | cons r1 r2 =>
  cases r2 with
  | cons r3 r4=>cases r4;exact ⟨_,_,rfl,r1,r3⟩
theorem yg (hc:X.calm=true):qA X (.builtin "max") (λxs H Q=>∃i j,xs=[.int i,.int j]/\Q (.int (if j > i then j else i)) H):=by
 intro pins s σ H xs us Q I r h
 obtain ⟨i,j,rfl,q⟩:=h
 obtain ⟨u,w',rfl,⟨t,rfl⟩,⟨t',rfl⟩⟩:=Zr r
 refine max_two_ints (I.ok.hd hc) λh' tk k=>⟨_,H,I.kept k,?_,q⟩
 by_cases hj:j > i
 ·rw [if_pos hj,if_pos hj];exact ⟨_,rfl⟩
 ·rw [if_neg hj,if_neg hj];exact ⟨_,rfl⟩
theorem yj (hc:X.calm=true):qA X (.builtin "min") (λxs H Q=>∃i j,xs=[.int i,.int j]/\Q (.int (if j<i then j else i)) H):=by
 intro pins s σ H xs us Q I r h
 obtain ⟨i,j,rfl,q⟩:=h
 obtain ⟨u,w',rfl,⟨t,rfl⟩,⟨t',rfl⟩⟩:=Zr r
 refine min_two_ints (I.ok.hd hc) λh' tk k=>⟨_,H,I.kept k,?_,q⟩
 by_cases hj:j<i
 ·rw [if_pos hj,if_pos hj];exact ⟨_,rfl⟩
 ·rw [if_neg hj,if_neg hj];exact ⟨_,rfl⟩
end
end L2
namespace L2
structure ObjM (h:Heap) (x dx C:Addr) (mA:Str->Option ae):Prop where
 obj:h.get? x=some (cx C dx)
 ns:h.Ns1 dx mA
 ne:dx≠x
theorem Zf {h:Heap}{dx:Addr}{mA:Str->Option ae}(n:h.Ns1 dx mA):∃od,h.get? dx=some od/\∀name,fM name od=some (mA name):=by
 obtain ⟨o,es,ep,ho,hd,hk,_,hm⟩:=n
 refine ⟨o,ho,λname=>?_⟩
 have e:=hm name
 unfold nsFind findBy at e
 rw [<- Array.find?_toList] at e
 unfold fM
 rw [hd]
 dsimp only
 split
 ·rename_i y q
  rw [q] at e
  exact congrArg some e
 ·rename_i q
  rw [q] at e
  have a:es.toList.any (·.refKey)=false:=by
   rw [List.any_eq_false]
   intro y hy
   obtain ⟨z,t,hkey⟩:=hk y (Array.mem_toList_iff.mp hy)
   simp [DictEntry.refKey,hkey]
  have a':¬es.toList.any (·.refKey)=true:=by rw [a];exact aq
  rw [if_neg a']
  exact congrArg some e
theorem ObjM.look {h:Heap}{x dx C:Addr}{mA:Str->Option ae}(I:ObjM h x dx C mA):∃od,PySem.W.InstAt h x (cx C dx) C (some od)/\∀name,fM name od=some (mA name) :=
 let ⟨od,ho,hl⟩:=Zf I.ns
 ⟨od,⟨I.obj,rfl,rfl,ho⟩,hl⟩
section
variable {prog:Program}{w:aX}{A:bg}{E:ae->Shared->Prop}{s:Shared}{K:ai}{x dx C f:Addr}{mA:Str->Option ae}{name:Str}{v:ae}
theorem Ym {expr:Bool}{Q:ae->Shared->Prop}(X:K.In s.heap) (I:ObjM s.heap x dx C mA) (hg:dE K C name=true) (hh:eI K C=true)
  (ha:bx K (.ref C) name=some none) (hv:mA name=some v) (hv':mJ v=true) (h:Q v { s with toks:=s.toks+1 }) :
  ay (aA prog w) A (getAttr (.ref x) name expr) Q E s:=by
 obtain ⟨od,J,hl⟩:=I.look
 exact PySem.W.get_value X J (fE hg).1 (PySem.W.findObj_own hh ha rfl (by rw [hl,hv])) hv' h
theorem Yg {pl:Sem Bool}{Q:ae×List ae->Shared->Prop}(X:K.In s.heap) (I:ObjM s.heap x dx C mA) (hg:dE K C name=true)
  (hf:bx K (.ref C) name=some (some (.ref f))) (ht:mh K (.ref f)=true) (hv:mA name=none) (h:Q (.ref f,[.ref x]) s) :
  ay (aA prog w) A (ik (.ref x) name pl) Q E s:=by
 obtain ⟨od,J,hl⟩:=I.look
 exact PySem.W.method_fn X J (fE hg).1 (fE hg).2 hf (beq_iff_eq.mp ht) (by show (fM name od).map (·.isSome)=some false;rw [hl,hv];rfl) h
theorem Yw {ns:List Str}{Q:Unit->Shared->Prop}(X:K.In s.heap) (I:ObjM s.heap x dx C mA)
  (hs:bx K (.ref C) "__setattr__" = some (some (.builtin "object.__setattr__"))) (hp:i0 K C=true) (ht:iT K C name=some none) (hh:eI K C=true)
  (hw:me mA ns) (hsz:ns.length<=sizeLine)
  (h:∀h',ObjM h' x dx C (λy=>if y=name then some v else mA y)->fH dx s.heap h'->Q () { s with heap:=h',toks:=s.toks+2 }) :
  ay (aA prog w) A (setAttr (.ref x) name v) Q E s:=by
 obtain ⟨od,J,hl⟩:=I.look
 refine PySem.W.set_plain X J hs (PySem.W.osa_open (s:={ s with toks:=s.toks+1 }) (r:=none) X J hp ht λb=>?_)
 obtain ⟨cd,hc,hd'⟩:=PySem.W.any_some hh
 have hx:s.heap.get? x=some ⟨.ref C,some dx,.plain,#[]⟩:=I.obj
 refine ah (wpAny_pure (ah (ah (wpAny_loadPart hx (ah (PySem.W.Looks.here (s:={ s with toks:=s.toks+1 }) (PySem.W.looks_clsIn X hc) ?_))))))
 rw [hd']
 refine wpAny_pure (a:=some dx) (ah (wpAny_pure (ah ?_)))
 refine wpAny_nsSet1 (s:={ s with toks:=s.toks+1 }) I.ns λh' hn2 hs2=>?_
 obtain ⟨oD,esD,epD,hoD,hdD,hcD⟩:=hn2.count (PySem.Within.cons name v hw)
 refine ah (wpAny_lookBehind hoD (by rw [hdD];exact pastItsLine_dict (aG hcD (by rw [ba];omega))) ?_)
 exact wpAny_pure (h _ ⟨(hs2.2 _ (cY I.ne)).trans I.obj,hn2,I.ne⟩ hs2)
theorem Yk {R:lW->Shared->Prop}{vs:List ae}{kw:List (Str×ae)}(X:K.In s.heap) (hm:iU K C=true)
  (hi:bx K (.ref C) "__init__" = some (some (.ref f))) (hf:PySem.W.typeIn K (.ref f)=some (.type "function"))
  (h:cE (aA prog w) (A.under (.builtin "type.__call__" ⟨.ref C::vs,kw⟩)) (.call (.ref f) ⟨.ref (s.heap.objs.size+1)::vs,kw⟩) (PySem.W.InitBack (s.heap.objs.size+1) R)
   { s with heap:=(s.heap.push bV).push (cx C s.heap.objs.size) }) :
  cE (aA prog w) A (.call (.ref C) ⟨vs,kw⟩) R s:=by
 obtain ⟨hh,g,d,t,os⟩:=s
 exact PySem.W.make_core (PySem.W.makes_of X hm) (PySem.W.looks_findIn X hi) (λself=>PySem.W.bind_fn X self hf) (.inl rfl) h
end
def jk (f:Str) (v:V):List (Str×V)->List (Str×V)
 | []=>[(f,v)]
 | (g,x)::r=>if g=f then (g,v)::r else (g,x)::jk f v r
theorem jv (f g:Str) (v:V):∀fs:List (Str×V),(jk f v fs).lookup g=if g=f then some v else fs.lookup g
 | []=>by
  show d9 g [(f,v)]=_
  by_cases h:g=f
  ·have hb:(g == f)=true:=beq_iff_eq.mpr h
   simp only [d9,hb,if_pos h]
  ·have hb:(g == f)=false:=beq_eq_false_iff_ne.mpr h
   simp only [d9,hb,if_neg h]
 | (k,x)::r=>by
  have ih:=jv f g v r
  rw [show jk f v ((k,x)::r)=(if k=f then (k,v)::r else (k,x)::jk f v r) from rfl]
  by_cases hk:k=f
  ·rw [if_pos hk]
   by_cases h:g=k
   ·have hb:(g == k)=true:=beq_iff_eq.mpr h
    simp only [d9,hb,if_pos (h.trans hk)]
   ·have hb:(g == k)=false:=beq_eq_false_iff_ne.mpr h
    simp only [d9,hb,if_neg (λe:g=f=>h (e.trans hk.symm))]
  ·rw [if_neg hk]
   by_cases h:g=k
   ·have hb:(g == k)=true:=beq_iff_eq.mpr h
    simp only [d9,hb,if_neg (λe:g=f=>hk (h.symm.trans e))]
   ·have hb:(g == k)=false:=beq_eq_false_iff_ne.mpr h
    simp only [d9,hb]
    exact ih
theorem vK (f:Str) (v:V):∀fs:List (Str×V),f∈(jk f v fs).map (·.1)/\∀g,g∈fs.map (·.1)->g∈(jk f v fs).map (·.1)
 | []=>⟨by simp [jk],λg h=>by simp at h⟩
 | (k,x)::r=>by
  obtain ⟨i1,i2⟩:=vK f v r
  rw [show jk f v ((k,x)::r)=(if k=f then (k,v)::r else (k,x)::jk f v r) from rfl]
  by_cases hk:k=f
  ·rw [if_pos hk]
   subst hk
   exact ⟨by simp,λg h=>by simpa using h⟩
  ·rw [if_neg hk]
   refine ⟨?_,λg h=>?_⟩
   ·rw [aH]
    exact az _ i1
   ·rw [aH] at h ⊢
    rcases List.mem_cons.mp h with e | e
    ·exact List.mem_cons.mpr (.inl e)
    ·exact az _ (i2 g e)
theorem jL (f:Str) (v:V):∀fs:List (Str×V),(jk f v fs).length<=fs.length+1
 | []=>by simp [jk]
 | (k,x)::r=>by
  have ih:=jL f v r
  rw [show jk f v ((k,x)::r)=(if k=f then (k,v)::r else (k,x)::jk f v r) from rfl]
  by_cases hk:k=f
  ·rw [if_pos hk,ba,ba];omega
  ·rw [if_neg hk,ba,ba];omega
theorem zQ.some_of {v:V}{o:Option ae}(r:zQ (some v) o):∃u,o=some u/\jA v u:=by
 cases o with
 | none=>exact (show False from r).elim
 | some u=>exact ⟨u,rfl,r⟩
theorem zQ.none_of {o:Option ae}(r:zQ none o):o=none:=by
 cases o with
 | none=>rfl
 | some u=>exact (show False from r).elim
theorem Zl {v:V}{u:ae}(r:jA v u):mJ u=true:=by
 cases v with
 | non=>cases (show u=b7 from r);rfl
 | bl b=>cases (show u=iC b from r);rfl
 | int i=>obtain ⟨t,e⟩:=(show ∃t,u=ib i t from r);cases e;rfl
 | str x=>obtain ⟨t,e⟩:=(show ∃t,u=lE x t from r);cases e;rfl
 | byt b=>obtain ⟨t,e⟩:=(show ∃t,u=Value.bytes b t from r);cases e;rfl
 | flt b=>obtain ⟨t,e⟩:=(show ∃t,u=mQ b t from r);cases e;rfl
 | ref a=>cases (show u=aZ a from r);rfl
 | ty n=>cases (show u=fb n from r);rfl
section
variable {P:Program}{w:aX}{H H':Hp}{h h':Heap}{a C dx:Addr}{fs fs':List (Str×V)}
theorem uy (hok:HOk P w H h) (e:H a=some (.ins C dx fs)):∃mA,ObjM h a dx C mA/\(∀f,zQ (fs.lookup f) (mA f))/\me mA (fs.map (·.1))/\fs.length<=1000/\H dx=some (.own a):=by
 obtain ⟨d,z,ne,ob,mA,n,r,q⟩:=(show jY P w H h a (.ins C dx fs) from hok a _ e)
 exact ⟨mA,⟨ob,n,ne⟩,r,q,z,d⟩
end
structure Cls (K:ai) (C:Addr):Prop where
 pg:dE K C Str.empty=true
 hd:eI K C=true
 po:i0 K C=true
 sa:bx K (.ref C) "__setattr__" = some (some (.builtin "object.__setattr__"))
theorem Cls.get {K:ai}{C:Addr}(c:Cls K C) (f:Str):dE K C f=true:=c.pg
def xK (K:ai) (C:Addr) (f:Str):Prop:=bx K (.ref C) f=some none
theorem xK.taker {K:ai}{C:Addr}{f:Str}(n:xK K C f):iT K C f=some none:=by
 unfold iT
 rw [show bx K (.ref C) f=some none from n]
 rfl
structure Meth (K:ai) (C:Addr) (m:Str) (f:Addr):Prop where
 at_:bx K (.ref C) m=some (some (.ref f))
 fn:mh K (.ref f)=true
 kp:bD K (.ref f)=true
section
variable {X:Cx}{pins:List (Addr×Obj)}{σ:St}{H:Hp}{s:Shared}{a C dx:Addr}{fs:List (Str×V)}{f:Str}{v:V}{A:bg}{E:ae->Shared->Prop}
theorem Ql {b:Bool}{Q:ae->Shared->Prop}(I:Inv X pins σ H s) (e:H a=some (.ins C dx fs)) (c:Cls X.K C) (n:xK X.K C f) (l:fs.lookup f=some v)
  (h:∀u s',Inv X pins σ H s'->jA v u->Q u s'):ay (aA X.prog X.w) A (getAttr (.ref a) f b) Q E s:=by
 obtain ⟨mA,O,r,_,_,_⟩:=uy I.hok e
 obtain ⟨u,hu,ru⟩:=zQ.some_of (v:=v) (o:=mA f) (by rw [<- l];exact r f)
 exact Ym I.kIn O (c.get f) c.hd n hu (Zl ru) (h u _ (I.tok _) ru)
theorem yX {m:Str}{g:Addr}{pl:Sem Bool}{Q:ae×List ae->Shared->Prop}(I:Inv X pins σ H s) (e:H a=some (.ins C dx fs)) (c:Cls X.K C) (k:Meth X.K C m g) (l:fs.lookup m=none)
  (h:Q (.ref g,[.ref a]) s):ay (aA X.prog X.w) A (ik (.ref a) m pl) Q E s:=by
 obtain ⟨mA,O,r,_,_,_⟩:=uy I.hok e
 have hn:mA m=none:=zQ.none_of (by rw [<- l];exact r m)
 exact Yg I.kIn O (c.get m) k.at_ k.fn hn h
theorem Qb {y:V}{u:ae}{Q:Unit->Shared->Prop}(I:Inv X pins σ H s) (e:H a=some (.ins C dx fs)) (c:Cls X.K C) (n:xK X.K C f) (hl:fs.length<1000) (ry:jA y u)
  (h:∀s',Inv X pins σ (upd H a (.ins C dx (jk f y fs))) s'->Q () s'):ay (aA X.prog X.w) A (setAttr (.ref a) f u) Q E s:=by
 obtain ⟨mA,O,r,wi,_,ho⟩:=uy I.hok e
 have hz:(fs.map (·.1)).length<=sizeLine:=by rw [af,bu];omega
 refine Yw I.kIn O c.sa c.po n.taker c.hd wi hz λh' O' sb=>h _ ?_
 have hd:∃o,h'.get? dx=some o:=let ⟨o,_,_,e',_⟩:=O'.ns;⟨o,e'⟩
 refine I.write (x:=a) (e:=dx) (by rw [e];exact cA) (.inr ho) (λb q hb z=>(sb.2 b hb).trans z) hd ?_
 refine ⟨by rw [j5 O.ne];exact ho,?_,O.ne,O'.obj,_,O'.ns,λg=>?_,λg hg=>?_⟩
 ·have:=jL f y fs;omega
 ·show zQ ((jk f y fs).lookup g) (if g=f then some u else mA g)
  rw [jv]
  by_cases q:g=f
  ·rw [if_pos q,if_pos q];exact ry
  ·rw [if_neg q,if_neg q];exact r g
 ·by_cases q:g=f
  ·rw [q];exact (vK f y fs).1
  ·refine (vK f y fs).2 g (wi g λz=>hg ?_)
   show (if g=f then some u else mA g)=none
   rw [if_neg q];exact z
theorem Inv.made (I:Inv X pins σ H s):Inv X pins σ (upd (upd H s.heap.objs.size (.own (s.heap.objs.size+1))) (s.heap.objs.size+1) (.ins C s.heap.objs.size []))
  { s with heap:=(s.heap.push bV).push (cx C s.heap.objs.size) }:=by
 have e1:(s.heap.push bV).get? s.heap.objs.size=some bV:=aD s.heap rfl
 have e2:((s.heap.push bV).push (cx C s.heap.objs.size)).get? (s.heap.objs.size+1)=some (cx C s.heap.objs.size):=by
  have:=aD (s.heap.push bV) (o:=cx C s.heap.objs.size) rfl
  rwa [eJ] at this
 have e3:(s.heap.push bV).Ns s.heap.objs.size (λ_=>none):=⟨bV,#[],_,e1,rfl,(λe he=>absurd he (by simp)),λ_=>rfl⟩
 have I1:=I.laid (a:=s.heap.objs.size) (o:=.own (s.heap.objs.size+1)) (h':=s.heap.push bV) (t':=s.toks) (λb u q=>aj _ q) (ao _) ⟨_,e1⟩
 refine I1.laid (a:=s.heap.objs.size+1) (o:=.ins C s.heap.objs.size []) (t':=s.toks) (λb u q=>aj _ q) (mi (eJ _ _)) ?_
 have ne:s.heap.objs.size≠s.heap.objs.size+1:=aB (fc _)
 refine ⟨by rw [j5 ne,j7],aJ _,ne,e2,λ_=>none,(Heap.Ns1.of_empty e3).at λo q=>aj _ q,λ_=>cA,λy hy=>absurd rfl hy⟩
theorem V2 {prog:Program}{w:aX}{env:Env}{e:Expr}{f:Str}{pos:Pos}{s:Shared}{Q:ae->Shared->Prop}(hb:dJ e f env (eval e env)=eval e env)
  (h:ay (aA prog w) A (eval e env) (λo s₁=>ay (aA prog w) A (getAttr o f true) Q E s₁) E s):ay (aA prog w) A (eval (.Attribute e f pos) env) Q E s :=
 Attribute_any_ h (by rw [arm_eval_Attribute,hb])
end
def Wb (K:ai) (ta:TE) (f:Str):TE:=λσ H Q=>ta σ H λx H1=>∃a C dx fs v,x = .ref a/\H1 a=some (.ins C dx fs)/\Cls K C/\xK K C f/\fs.lookup f=some v/\Q v H1
def Us (K:ai) (ta tv:TE) (f:Str):TS:=λD σ H=>tv σ H λy H1=>ta σ H1 λx H2=>∃a C dx fs,x = .ref a/\H2 a=some (.ins C dx fs)/\Cls K C/\xK K C f/\fs.length<1000 /\
 D.nx σ (upd H2 a (.ins C dx (jk f y fs)))
section
variable {X:Cx}{o e value:Expr}{f:Str}{pos pos' tpos:Pos}{ta tv:TE}
theorem Vy (he:PE X e ta) (hb:dJ e f X.env (eval e X.env)=eval e X.env):PE X (.Attribute e f pos) (Wb X.K ta f):=by
 intro pins s σ H Q I h
 refine V2 hb (thn (he pins s σ H _ I h) λu s1 ⟨x,H1,I1,rx,a,C,dx,fs,v,ex,ea,c,n,l,q⟩=>?_)
 subst ex
 obtain rfl:u=aZ a:=rx
 exact Ql I1 ea c n l λu' s2 I2 ru=>⟨v,H1,I2,ru,q⟩
theorem Vw (ha:PE X o ta) (hv:PE X value tv) (hs:fJ value (some (.Attribute o f pos')) pos.line X.env=pure false):PS X (.Assign [.Attribute o f pos'] value pos) (Us X.K ta tv f):=by
 intro pins s σ H D I h
 refine plainObj_wpAny_Assign_Attribute (thn (hv pins s σ H _ I h) λu s1 ⟨y,H1,I1,ry,q⟩=>thn (ha pins s1 σ H1 _ I1 q) λov s2 ⟨x,H2,I2,rx,a,C,dx,fs,ex,ea,c,n,l,q2⟩=>?_) hs
 subst ex
 obtain rfl:ov=aZ a:=rx
 exact Qb I2 ea c n l ry λs3 I3=>⟨σ,_,I3,q2⟩
theorem Vr {pl:Sem Bool}{m:Str}{apos:Pos}{args:List Expr}{pins:List (Addr×Obj)}{s:Shared}{σ:St}{H:Hp}{Q:ae->Shared->Prop}{te:TE}(he:PE X e te) (I:Inv X pins σ H s)
  (h:te σ H λx H1=>∃a C dx fs g,x = .ref a/\H1 a=some (.ins C dx fs)/\Cls X.K C/\Meth X.K C m g/\fs.lookup m=none /\
   ∀s1,Inv X pins σ H1 s1->ay (aA X.prog X.w) X.A (mj pos (.ref g) [.ref a] (ck pos (aK args X.env)) (fN pos (dz [] X.env))) Q X.xe s1)
  (ht:eval (.Call (.Attribute e m apos) args [] pos) X.env=(do
   let ov <- eval e X.env
   eE apos.atName
   let (f,first) <- dQ [ov] (ik ov m pl)
   mj pos f first (ck pos (aK args X.env)) (fN pos (dz [] X.env)))) :
  ay (aA X.prog X.w) X.A (eval (.Call (.Attribute e m apos) args [] pos) X.env) Q X.xe s:=by
 refine eV (pl:=pl) (thn (he pins s σ H _ I h) λu s1 ⟨x,H1,I1,rx,a,C,dx,fs,g,ex,ea,c,k,l,q⟩=>?_) ht
 subst ex
 obtain rfl:u=aZ a:=rx
 exact yX I1 ea c k l (q s1 I1)
end
section
variable {X:Cx}{pins:List (Addr×Obj)}{σ:St}{H:Hp}{s:Shared}{A:bg}{E:ae->Shared->Prop}{Q:ae->Shared->Prop}{c:ae}{b:Bool}
inductive TyOf (K:ai) (H:Hp):V->ae->Prop where
 | non:TyOf K H .non (.type "NoneType")
 | bl (x:Bool):TyOf K H (.bl x) (.type "bool")
 | int (i:Int):TyOf K H (.int i) (.type "int")
 | str (x:Str):TyOf K H (.str x) (.type "str")
 | flt (x:UInt64):TyOf K H (.flt x) (.type "float")
 | lst {a:Addr} {xs:List V} (e:H a=some (.lst xs)):TyOf K H (.ref a) (.type "list")
 | frz {a:Addr} {o:Obj} {xs:List V} (e:H a=some (.frz o (.lst xs))):TyOf K H (.ref a) (.type "list")
 | tup {a:Addr} {xs:List V} (e:H a=some (.tup xs)):TyOf K H (.ref a) (.type "tuple")
 | dK {a:Addr} {kvs:List (Key×V)} (e:H a=some (.dK kvs)):TyOf K H (.ref a) (.type "dict")
 | dT {a:Addr} {kvs:List (List Key×V)} (e:H a=some (.dT kvs)):TyOf K H (.ref a) (.type "dict")
 | ins {a C dx:Addr} {fs:List (Str×V)} (e:H a=some (.ins C dx fs)) (cl:Cls K C) (ha:bx K (.ref C) "__class__" = some (some (.builtin "object.__class__")))
   (hn:PySem.W.specialIn K (.builtin "object.__class__") "__get__" = some (some (.builtin "getset_descriptor.__get__"))) (htk:PySem.W.takesIn K (.builtin "object.__class__")=some true)
   (hm:PySem.W.mroIn K C (.type "object")=some true):TyOf K H (.ref a) (.ref C)
theorem Zj {x:V}{u t:ae}(I:Inv X pins σ H s) (rx:jA x u) (ty:TyOf X.K H x t) (e:eK X.K t c=some b) (h:∀tk,Q (.bool b) { s with toks:=tk }) :
  ay (aA X.prog X.w) A (call (.builtin "isinstance") [u,c]) Q E s:=by
 cases ty with
 | non=>cases (show u=b7 from rx);exact bP PySem.W.kitx_none I.kIn cA e (λz=>nomatch z) h
 | bl y=>cases (show u=iC y from rx);exact bP PySem.W.kitx_bool I.kIn cA e (λz=>nomatch z) h
 | int i=>obtain ⟨t,q⟩:=(show ∃t,u=ib i t from rx);cases q;exact bP PySem.W.kitx_int I.kIn cA e (λz=>nomatch z) h
 | str y=>obtain ⟨t,q⟩:=(show ∃t,u=lE y t from rx);cases q;exact bP PySem.W.kitx_str I.kIn cA e (λz=>nomatch z) h
 | flt y=>obtain ⟨t,q⟩:=(show ∃t,u=mQ y t from rx);cases q;exact bP PySem.W.kitx_float I.kIn cA e (λz=>nomatch z) h
 | @lst a xs ea =>
  cases (show u=aZ a from rx)
  obtain ⟨_,_,n,_,h1⟩:=(show jY X.prog X.w H s.heap a (.lst xs) from I.hok a _ ea)
  exact bP ml I.kIn ⟨_,h1,rfl⟩ e (λz=>nomatch z) h
 | @frz a ob xs ea =>
  cases (show u=aZ a from rx)
  obtain ⟨_,_,_,n,_,h1⟩:=(show jY X.prog X.w H s.heap a (.frz ob (.lst xs)) from I.hok a _ ea)
  exact bP ml I.kIn ⟨_,h1,rfl⟩ e (λz=>nomatch z) h
 | @tup a xs ea =>
  cases (show u=aZ a from rx)
  obtain ⟨_,_,_,p⟩:=(show jY X.prog X.w H s.heap a (.tup xs) from I.hok a _ ea)
  obtain ⟨o,h1,h2,_⟩:=p
  exact bP PySem.W.kitx_tuple I.kIn ⟨o,h1,h2⟩ e (λz=>nomatch z) h
 | @dK a kvs ea =>
  cases (show u=aZ a from rx)
  obtain ⟨_,_,vs,_,p⟩:=(show jY X.prog X.w H s.heap a (.dK kvs) from I.hok a _ ea)
  obtain ⟨o,es,ep,h1,h2,_⟩:=p
  exact bP mm I.kIn ⟨o,h1,h2.1⟩ e (λz=>nomatch z) h
 | @dT a kvs ea =>
  cases (show u=aZ a from rx)
  obtain ⟨_,_,xs,_,o,es,ep,h1,h2,_⟩:=(show jY X.prog X.w H s.heap a (.dT kvs) from I.hok a _ ea)
  exact bP mm I.kIn ⟨o,h1,h2.1⟩ e (λz=>nomatch z) h
 | @ins a C dx fs ea cl ha hn htk hm =>
  cases (show u=aZ a from rx)
  obtain ⟨mA,O,_⟩:=uy I.hok ea
  obtain ⟨od,J,_⟩:=O.look
  exact bP (PySem.W.kitx_own (cl.get _) cl.hd ha hn htk hm) I.kIn J e (λz=>nomatch z) h
end
end L2
namespace L2
structure Room (k:Nat) (A:bg):Prop where
 hd:A.handled=none
 dp:A.depth+3*k+5<recursionLimit
 un:A.units+16*k+200<cLine
theorem Room.mono {j k:Nat}{A:bg}(r:Room k A) (h:j<=k):Room j A:=⟨r.hd,by have:=r.dp;omega,by have:=r.un;omega⟩
theorem Room.deeper {k:Nat}{A:bg}(r:Room (k+1) A) (env:Env):Room k (A.deeper env) :=
 ⟨r.hd,by have:=r.dp;show A.depth+1+3*k+5<_;omega,by have:=r.un;show A.units+3+16*k+200<_;omega⟩
theorem Room.in1 {k:Nat}{A:bg}(r:Room (k+1) A):Room k A.in1 :=
 ⟨r.hd,by have:=r.dp;show A.depth+3*k+5<_;omega,by have:=r.un;show A.units+1+16*k+200<_;omega⟩
theorem Qt {A:bg}{C:Addr}{us:List ae}{kw:List (Str×ae)}:(A.under (.builtin "type.__call__" ⟨.ref C::us,kw⟩)).depth=A.depth+1:=by
 first | rfl | simp [mn,Code.weight,Code.isCreation,Code.isGuard,Code.isCaller,Code.frames,mq,guardIds]
theorem Qw {A:bg}{C:Addr}{us:List ae}{kw:List (Str×ae)}:(A.under (.builtin "type.__call__" ⟨.ref C::us,kw⟩)).units=A.units+1:=by
 first | rfl | simp [mn,Code.cUnits,Code.frames,mq]
theorem Room.make {k:Nat}{A:bg}(r:Room (k+1) A) (C:Addr) (us:List ae) (kw:List (Str×ae)):Room k (A.under (.builtin "type.__call__" ⟨.ref C::us,kw⟩)) :=
 ⟨r.hd,by have:=r.dp;rw [Qt];omega,by have:=r.un;rw [Qw];omega⟩
theorem Room.depth {k:Nat}{A:bg}(r:Room k A):A.depth<recursionLimit:=by have:=r.dp;omega
theorem Room.units {k:Nat}{A:bg}(r:Room k A):A.units+64<cLine:=by have:=r.un;omega
def Uc:TA:=λ_ H Q=>Q [] H
def UT (ta:TE) (tr:TA):TA:=λσ H Q=>ta σ H λx H1=>tr σ H1 λxs H2=>Q (x::xs) H2
section
variable {X:Cx}{e:Expr}{es:List Expr}{te:TE}{t:TA}{pos:Pos}
theorem j2:PA X [] Uc:=λ_ _ _ _ H Q I h=>mr ⟨[],H,I,.nil,h⟩
theorem j0 (ha:PE X e te) (hr:PA X es t) (hs:aK (e::es) X.env=(false,eval e X.env)::aK es X.env:=by rfl):PA X (e::es) (UT te t):=by
 intro pos pins s σ H Q I h
 rw [hs]
 show ay _ _ (spliced ((false,eval e X.env)::ck pos (aK es X.env))) _ _ s
 refine fO (thn (ha pins s σ H _ I h) λu s1 ⟨x,H1,I1,r1,q1⟩=>?_)
 exact thn (hr pos pins s1 σ H1 _ I1 q1) λus s2 ⟨xs,H2,I2,r2,q2⟩=>⟨x::xs,H2,I2,.cons r1 r2,q2⟩
end
abbrev Sp:=List V->Hp->VK->XK->Prop
abbrev CXT:=List Env->Hp->Shared->XK->ae->Shared->Prop
structure Env0 (P:Program) (w:aX) (K:ai) (mg:Str->Option ae) (base:Heap) (A:bg) (outer:List Env) (s:Shared) (H:Hp):Prop where
 frames:A.frames=some outer
 mod:Mod K mg base
 bs:∀b o,base.get? b=some o->s.heap.get? b=some o/\H b=none
 bsz:base.objs.size<=s.heap.objs.size
 funs:s.heap.FunFrames base outer
 frf:∀b∈frs outer,H b=none
 hok:HOk P w H s.heap
 bare:ff s.gens
def CE (outer:List Env) (P:Program) (w:aX) (H:Hp) (s:Shared) (Q:VK) (u:ae) (s':Shared):Prop :=
 ∃v H',s'.os=s.os/\ff s'.gens/\Un (frs outer) [] H H' s.heap s'.heap/\HOk P w H' s'.heap/\jA v u/\Q v H'
def CR (CX:CXT) (outer:List Env) (P:Program) (w:aX) (H:Hp) (s:Shared) (Q:VK) (E:XK) (r:lW) (s':Shared):Prop :=
 match r with
 | .ok (.ret u)=>CE outer P w H s Q u s'
 | .ok _=>False
 | .error e=>CX outer H s E e s'
structure FnOk (P:Program) (w:aX) (K:ai) (mg:Str->Option ae) (base:Heap) (CX:CXT) (k:Nat) (f:Addr) (fd:FuncData) (ps:List Str) (sp:Sp):Prop where
 len:∀vs H Q E,sp vs H Q E->vs.length=ps.length
 run:∀(A:bg) (outer:List Env) (s:Shared) (H:Hp) (args:Args) (us:List ae) (vs:List V) (Q:VK) (E:XK),Room k A->Env0 P w K mg base A outer s H->nu s fd args (ps.zip us)->jz vs us->sp vs H Q E ->
  cE (aA P w) A (.call (.ref f) args) (CR CX outer P w H s Q E) s
theorem Env0.make {P:Program}{w:aX}{K:ai}{mg:Str->Option ae}{base:Heap}{A:bg}{outer:List Env}{s:Shared}{H:Hp}(e:Env0 P w K mg base A outer s H) (C:Addr) (us:List ae) (kw:List (Str×ae)) :
  Env0 P w K mg base (A.under (.builtin "type.__call__" ⟨.ref C::us,kw⟩)) outer s H:=⟨by first | exact e.frames | (simpa [mn,Code.envs,mq,pushEnvs] using e.frames),e.mod,e.bs,e.bsz,e.funs,e.frf,e.hok,e.bare⟩
theorem Env0.in1 {P:Program}{w:aX}{K:ai}{mg:Str->Option ae}{base:Heap}{A:bg}{outer:List Env}{s:Shared}{H:Hp}(e:Env0 P w K mg base A outer s H) :
  Env0 P w K mg base A.in1 outer s H:=⟨e.frames,e.mod,e.bs,e.bsz,e.funs,e.frf,e.hok,e.bare⟩
section
variable {X:Cx}{pins:List (Addr×Obj)}{σ:St}{H:Hp}{s s':Shared}
theorem Inv.env0 (I:Inv X pins σ H s):Env0 X.prog X.w X.K X.mg X.base X.A X.stack s H :=
 ⟨I.ok.frames,I.ok.mod,I.bs,aG I.ok.bsz I.sz,I.stack,I.stkFree,I.hok,I.bare⟩
theorem Inv.after {Q:VK}{u:ae}(I:Inv X pins σ H s) (h:CE X.stack X.prog X.w H s Q u s'):EP X pins σ Q u s':=by
 obtain ⟨v,H',os,bare,un,hok,r,q⟩:=h
 obtain ⟨hh,g,d,t,os'⟩:=s'
 obtain rfl:os'=s.os:=os
 exact ⟨v,H',I.call (h':=hh) (g':=g) (d':=d) (t':=t) (ch:=[]) un hok bare (λb z=>absurd z (by simp)),r,q⟩
end
def Vk (sp:Sp) (dvs:List V) (E:XK) (t:TA):TE:=λσ H Q=>t σ H λvs H1=>sp (vs++dvs) H1 Q E
def Vg (C:Addr) (m:Str) (sp:Sp) (dvs:List V) (E:XK) (ta:TE) (t:TA):TE:=λσ H Q=>ta σ H λx H1=>∃a dx fs,x = .ref a/\H1 a=some (.ins C dx fs)/\fs.lookup m=none /\
 t σ H1 λvs H2=>sp (x::(vs++dvs)) H2 Q E
def zP (K:ai) (fd:FuncData) (ps:List Str) (ds:List ae):Prop :=
 ∀(s:Shared) (us:List ae),K.In s.heap->(us++ds).length=ps.length->nu s fd ⟨us,[]⟩ (ps.zip (us++ds))
theorem zP.all {K:ai}{fd:FuncData}{ps:List Str}(h:∀us:List ae,us.length=ps.length->c5 fd ⟨us,[]⟩=pure (ps.zip us)):zP K fd ps []:=λs us _ hl=>by
 rw [br] at hl ⊢
 exact .of_eq (h us hl)
def hE (CX:CXT) (X:Cx) (E:XK):Prop:=∀(pins:List (Addr×Obj)) (σ:St) (H:Hp) (s:Shared) (e:ae) (s':Shared),Inv X pins σ H s->CX X.stack H s E e s'->X.xe e s'
section
variable {X:Cx}{CX:CXT}{k:Nat}{f C:Addr}{fd:FuncData}{ps:List Str}{sp:Sp}{dvs:List V}{ds:List ae}{E:XK}{x m:Str}{p pos apos:Pos}{e o:Expr}{es:List Expr}{ta:TE}{t:TA}
theorem Y3 {pins:List (Addr×Obj)}{σ:St}{H:Hp}{s:Shared}{Q:VK}{us:List ae}{vs:List V}(F:FnOk X.prog X.w X.K X.mg X.base CX k f fd ps sp) (hr:Room k X.A) (hb:zP X.K fd ps ds) (hd:jz dvs ds) (hx:hE CX X E)
  (I:Inv X pins σ H s) (r:jz vs us) (h:sp (vs++dvs) H Q E):ay (aA X.prog X.w) X.A (call (.ref f) us) (EP X pins σ Q) X.xe s:=by
 have r2:jz (vs++dvs) (us++ds):=r.append hd
 have hl:(us++ds).length=ps.length:=by rw [<- r2.length];exact F.len _ _ _ _ h
 refine iG (cU (F.run X.A X.stack s H ⟨us,[]⟩ (us++ds) (vs++dvs) Q E hr I.env0 (hb s us I.kIn hl) r2 h) λr s' hq=>?_)
 cases r with
 | error e=>exact hx pins σ H s e s' I hq
 | ok fl =>
  cases fl with
  | ret u=>exact I.after hq
  | next=>exact bp hq
  | brk=>exact bp hq
  | cont=>exact bp hq
theorem Yv (F:FnOk X.prog X.w X.K X.mg X.base CX k f fd ps sp) (hr:Room k X.A) (hg:Gl X x) (hm:X.mg x=some (.ref f)) (hk:bD X.K (.ref f)=true) (hb:zP X.K fd ps ds) (hd:jz dvs ds) (hx:hE CX X E)
  (ha:PA X (e::es) t) (hdb:(x == ("__debug__" : Str))=false:=by decide) (he:aK (e::es) X.env=(false,eval e X.env)::aK es X.env:=by rfl) (hpl:(ck pos (aK es X.env)).any (·.1)=false:=by rfl) :
  PE X (.Call (.Name x p) (e::es) [] pos) (Vk sp dvs E t):=by
 intro pins s σ H Q I h
 refine cJ (vy I hg hm ?_ hdb)
 refine df (h₀:=X.base) I.ok.mod.kin hk (thn (ha pos pins s σ H _ I h) λus s1 ⟨vs,H1,I1,r,q⟩=>⟨I1.kIn,?_⟩) he hpl
 exact Y3 F hr hb hd hx I1 r q
theorem Vb {pl:Sem Bool}(he:PE X o ta) (c:Cls X.K C) (hm:Meth X.K C m f) (F:FnOk X.prog X.w X.K X.mg X.base CX k f fd ps sp) (hr:Room k X.A) (hb:zP X.K fd ps ds) (hd:jz dvs ds) (hx:hE CX X E) (ha:PA X (e::es) t)
  (hst:aK (e::es) X.env=(false,eval e X.env)::aK es X.env:=by rfl) (hpl:(ck pos (aK es X.env)).any (·.1)=false:=by rfl)
  (ht:eval (.Call (.Attribute o m apos) (e::es) [] pos) X.env=(do
   let ov <- eval o X.env
   eE apos.atName
   let (f,first) <- dQ [ov] (ik ov m pl)
   mj pos f first (ck pos (aK (e::es) X.env)) (fN pos (dz [] X.env))):=by rfl) :
  PE X (.Call (.Attribute o m apos) (e::es) [] pos) (Vg C m sp dvs E ta t):=by
 intro pins s σ H Q I h
 refine eV (pl:=pl) (thn (he pins s σ H _ I h) λu s1 ⟨x,H1,I1,rx,a,dx,fs,ex,ea,l,q⟩=>?_) ht
 subst ex
 obtain rfl:u=aZ a:=rx
 refine yX I1 ea c hm l ?_
 refine df (first:=[.ref a]) (h₀:=X.base) I.ok.mod.kin hm.kp (thn (ha pos pins s1 σ H1 _ I1 q) λus s2 ⟨vs,H2,I2,r,q2⟩=>⟨I2.kIn,?_⟩) hst hpl
 exact Y3 (us:=.ref a::us) (vs:=.ref a::vs) F hr hb hd hx I2 (.cons rfl r) q2
structure Mk (K:ai) (C f:Addr):Prop where
 makes:iU K C=true
 init:bx K (.ref C) "__init__" = some (some (.ref f))
 fn:mh K (.ref f)=true
 kp:bD K (.ref C)=true
end
section
variable {X:Cx}{CX:CXT}{k:Nat}{f C:Addr}{fd:FuncData}{ps ks:List Str}{sp:Sp}{E:XK}{x m:Str}{p pos apos kpos:Pos}{e o:Expr}{es:List Expr}{kws:List iH}{te ta:TE}{t tk:TA}{nm:Option Str}
variable {g:List ae->List ae->List ae}{gV:List V->List V->List V}
end
structure FnScope (N P:List Str) (sc:Scope):Prop where
 kind:sc.kind = .function
 co:sc.isCoroutine=false
 gen:sc.isGenerator=false
 nd:N.Nodup
 pre:N.take P.length=P
 par:∀x∈P,sc.names.lookup x=some .local\/sc.names.lookup x=some .cell
 nofree:∀y∈sc.names,y.2≠.free
theorem kz {kindOf:Str->Option eL}{x:Str}:∀{binds:List (Str×ae)}{m:Str->Option ae},(∀v,(x,v)∉binds)->nR kindOf binds m x=m x
 | [],_,_=>rfl
 | (n,v)::r,m,h=>by
  unfold nR
  rw [kz λw hw=>h w (az _ hw)]
  split
  ·have:x≠n:=by rintro rfl;exact h v aC
   simp [this]
  ·rfl
theorem km {kindOf:Str->Option eL}{x:Str}:∀{binds:List (Str×ae)}{m:Str->Option ae},(∀v,(x,v)∉binds)->nU kindOf binds m x=m x
 | [],_,_=>rfl
 | (n,v)::r,m,h=>by
  unfold nU
  rw [km λw hw=>h w (az _ hw)]
  split
  ·rfl
  ·have:x≠n:=by rintro rfl;exact h v aC
   simp [this]
theorem k7 {kindOf:Str->Option eL}{x:Str}{v:ae}:∀{P:List Str}{vs:List ae}{i:Nat}{m:Str->Option ae},P.Nodup->P[i]? = some x->vs[i]? = some v->kindOf x=some .local ->
  nR kindOf (P.zip vs) m x=some v
 | [],_,_,_,_,h,_,_=>by simp at h
 | _::_,[],_,_,_,_,h,_=>by simp at h
 | p::P,w::vs,0,m,nd,h1,h2,hk=>by
  simp at h1 h2;subst h1;subst h2
  show nR kindOf ((p,w)::P.zip vs) m p=_
  unfold nR
  rw [kz λv hv=>(List.nodup_cons.mp nd).1 (fA hv).1,if_pos hk]
  simp
 | p::P,w::vs,i+1,m,nd,h1,h2,hk=>by
  show nR kindOf ((p,w)::P.zip vs) m x=_
  unfold nR
  exact k7 (i:=i) (List.nodup_cons.mp nd).2 (by simpa using h1) (by simpa using h2) hk
theorem kt {kindOf:Str->Option eL}{x:Str}{v:ae}:∀{P:List Str}{vs:List ae}{i:Nat}{m:Str->Option ae},P.Nodup->P[i]? = some x->vs[i]? = some v->kindOf x≠some .local ->
  nU kindOf (P.zip vs) m x=some v
 | [],_,_,_,_,h,_,_=>by simp at h
 | _::_,[],_,_,_,_,h,_=>by simp at h
 | p::P,w::vs,0,m,nd,h1,h2,hk=>by
  simp at h1 h2;subst h1;subst h2
  show nU kindOf ((p,w)::P.zip vs) m p=_
  unfold nU
  rw [km λv hv=>(List.nodup_cons.mp nd).1 (fA hv).1,if_neg hk]
  simp
 | p::P,w::vs,i+1,m,nd,h1,h2,hk=>by
  show nU kindOf ((p,w)::P.zip vs) m x=_
  unfold nU
  exact kt (i:=i) (List.nodup_cons.mp nd).2 (by simpa using h1) (by simpa using h2) hk
def start (N:List Str) (vs:List V):St:=vs.map some++fP (N.length-vs.length) none
def yO (CX:CXT) (P:Program) (w:aX) (K:ai) (mg:Str->Option ae) (base:Heap) (N:List Str) (qual:Str) (scope:Scope) (f:Addr) (cd:ae) (A:bg) (outer:List Env) (s:Shared) (H:Hp) (E:XK):Cx where
 prog:=P
 w:=w
 K:=K
 mg:=mg
 base:=base
 A:=A.deeper (i7 qual scope s.heap.objs.size f cd)
 N:=N
 s₀:=s
 H₀:=H
 env:=i7 qual scope s.heap.objs.size f cd
 outer:=outer
 stack:=i7 qual scope s.heap.objs.size f cd::outer
 ex:=[]
 calm:=true
 fn:=λ_=>true
 pn:=[]
 xe:=λe s'=>ay (aA P w) (A.deeper (i7 qual scope s.heap.objs.size f cd)) (lF (i7 qual scope s.heap.objs.size f cd) e) (λ_ s''=>CX outer H s E e s'') (λe' s''=>CX outer H s E e' s'') s'
theorem J5 {sc:Scope}{n:Nat}{x:Str}(h:sc.names.lookup x=some .cell):∃c,(mK n sc.names []).lookup x=some c:=by
 have q:=eM sc.names n [] (.inl h)
 exact Option.isSome_iff_exists.mp q
theorem kI {CX:CXT}{P:Program}{w:aX}{K:ai}{mg:Str->Option ae}{base:Heap}{N ps:List Str}{qual:Str}{scope:Scope}{f:Addr}{cd:ae}{A:bg}{outer:List Env}{s s1:Shared}{H:Hp}{E:XK}{us:List ae}{vs:List V}
  (S:FnScope N ps scope) (hd:A.handled=none) (e0:Env0 P w K mg base A outer s H) (hl:vs.length=ps.length) (r:jz vs us)
  (x:InCallC s s.heap.objs.size (nR (i7 qual scope s.heap.objs.size f cd).kindOf (ps.zip us) λ_=>none) (mK (s.heap.objs.size+1) scope.names []) (nU (i7 qual scope s.heap.objs.size f cd).kindOf (ps.zip us) λ_=>none) s1) :
  Inv (yO CX P w K mg base N qual scope f cd A outer s H E) [] (start N vs) H s1:=by
 have hpl:ps.length<=N.length:=by have:=congrArg fm S.pre;rw [aW] at this;omega
 obtain ⟨h1,tk,rfl,hk⟩:=x.done
 have noA:∀b:Addr,b∉(yO CX P w K mg base N qual scope f cd A outer s H E).ex:=λb z=>absurd (show b∈([]:List Addr) from z) (by simp)
 refine ⟨⟨e0.mod,S.kind,rfl,rfl,ao _,λy z c h1 h2=>?_,λy hy=>?_,λy c _ h=>?_,λ_=>hd,Around.frames_deeper e0.frames,.inr ⟨rfl,rfl⟩,λb z=>absurd z (noA b),e0.bs,e0.bsz,λb _ _=>noA b,λb z=>absurd z (noA b),e0.funs,e0.frf⟩,
  rfl,e0.bare,Un.kept hk,⟨_,x.toInCall.ns,λi y v h1 h2 h3=>?_⟩,λy c h=>⟨_,x.cell y c h⟩,e0.hok.fresh (ao _),λy c h=>?_,λp hp=>absurd (show p∈([]:List (Addr×Obj)) from hp) (by simp),e0.hok.kept hk,?_⟩
 ·exact name_of_addr x.apart (cC h1) (cC h2)
 ·have hy:scope.names.lookup y=some .cell\/scope.names.lookup y=some .free:=hy
  rcases hy with hy | hy
  ·exact J5 hy
  ·exact absurd rfl (S.nofree _ (cC hy))
 ·exact cT (x.above y c (cC h))
 ·have hi:i<vs.length:=by
   unfold start at h2
   by_cases hi:i<vs.length
   ·exact hi
   ·rw [bM (by simpa using hi)] at h2
    rw [il] at h2
    split at h2 <;> cases h2
  have ha:vs[i]? = some v:=by
   unfold start at h2
   rw [cg (by simpa using hi),ar] at h2
   cases e:vs[i]? with
   | none=>rw [e] at h2;cases h2
   | some a=>rw [e] at h2;cases h2;rfl
  obtain ⟨u,hu,rv⟩:=r.get ha
  have hp:ps[i]? = some y:=by
   rw [<- S.pre,List.getElem?_take_of_lt ∅];exact h1
  have ndP:ps.Nodup:=by rw [<- S.pre];exact S.nd.sublist (List.take_sublist _ _)
  refine ⟨u,rv,?_⟩
  rcases S.par y (au hp) with k | k
  ·exact .inl ⟨k,k7 ndP hp hu k⟩
  ·obtain ⟨c,e⟩:=J5 (n:=s.heap.objs.size+1) k
   refine .inr ⟨.inl k,c,e,?_⟩
   have q:=x.cell y c e
   rw [kt ndP hp hu (by show scope.names.lookup y≠_;rw [k];decide)] at q
   exact q
 ·exact e0.hok.fresh (cT (x.above y c (cC h)))
 ·unfold start
  show _=N.length
  rw [av,af,l3]
  omega
theorem ZJ {CX:CXT}{P:Program}{w:aX}{K:ai}{mg:Str->Option ae}{base:Heap}{k:Nat}{f:Addr}{name qual:Str}{params:Arguments}{body:List Stmt}{scope:Scope}{dV kV doc pm cdv ct oc:ae}{an od:Option Addr}
  {osl:Array (Option ae)} {N ps:List Str} {sp:Sp} (lk:K.lookup f=some ⟨oc,od,.func (bw name qual params body scope dV kV doc pm an cdv ct),osl⟩) (hcd:c6 K cdv qual=true) (S:FnScope N ps scope)
  (len:∀vs H Q E,sp vs H Q E->vs.length=ps.length)
  (hbody:∀(A:bg) (outer:List Env) (s:Shared) (H:Hp) (vs:List V) (Q:VK) (E:XK),Room k (A.deeper (i7 qual scope s.heap.objs.size f cdv))->sp vs H Q E ->
   ∃t,PSs (yO CX P w K mg base N qual scope f cdv A outer s H E) body t/\t { nx:=λ_ H'=>Q .non H',rt:=Q } (start N vs) H) :
  FnOk P w K mg base CX (k+1) f (bw name qual params body scope dV kV doc pm an cdv ct) ps sp:=by
 refine ⟨len,λA outer s H args us vs Q E hr e0 hb r hsp=>?_⟩
 have hl:=len _ _ _ _ hsp
 have KX:K.In s.heap:=e0.mod.kin.keeps λb o e=>(e0.bs b o e).1
 have lim:s.heap.NoLimit:=e0.mod.nolimit.keeps λb o e=>(e0.bs b o e).1
 have hkind:∀y∈ps.zip us,scope.names.lookup y.1=some .local\/(scope.names.lookup y.1=some .cell/\((mK (s.heap.objs.size+1) scope.names []).lookup y.1).isSome=true):=λ⟨n,v⟩ hy=>by
  rcases S.par n (fA hy).1 with q | q
  ·exact .inl q
  ·exact .inr ⟨q,eM _ _ _ (.inl q)⟩
 refine codeAny_call_function hr.depth (KX _ _ lk) rfl S.co S.gen rfl (PySem.W.codeRec_of KX hcd) (hb _ _ _ _ ?_)
 refine fQ S.kind hkind λenv he s1 x=>?_
 subst he
 refine ⟨lim.keeps x.toInCall.keep,codeAny_func ?_⟩
 obtain ⟨t,ht,hq⟩:=hbody A outer s H vs Q E (hr.deeper _) hsp
 have I:Inv (yO CX P w K mg base N qual scope f cdv A outer s H E) [] (start N vs) H s1:=kI S hr.hd e0 hl r x
 refine aV (ht [] s1 (start N vs) H _ I hq) (λfl s' hs=>?_) λe s' hs=>hs
 have fin:∀{σ':St} {H':Hp} {v:V} {u:ae},Inv (yO CX P w K mg base N qual scope f cdv A outer s H E) [] σ' H' s'->jA v u->Q v H'->CE outer P w H s Q u s' :=
  λ{σ' H' v u} J rv q=>⟨v,H',J.os,J.bare,J.base,J.hok,rv,q⟩
 cases fl with
 | ret u =>
  obtain ⟨v,σ',H',J,rv,q⟩:=hs
  exact fin J rv q
 | next =>
  obtain ⟨σ',H',J,q⟩:=hs
  exact fin (v:=V.non) (u:=b7) J rfl q
 | brk =>
  obtain ⟨_,_,_,q⟩:=hs
  exact bp q
 | cont =>
  obtain ⟨_,_,_,q⟩:=hs
  exact bp q
end L2
namespace L2
section
variable {X:Cx}{x:Str}{p pos:Pos}{e:Expr}{es:List Expr}{t:TA}{id T:String}{r:List V->Hp->VK->Prop}
def tCB (r:List V->Hp->VK->Prop) (t:TA):TE:=λσ H Q=>t σ H λvs H1=>r vs H1 Q
theorem jg (hc:qA X (.builtin id) r) (hg:Gl X x) (hm:X.mg x=none) (hv:eC x=some (.builtin id)) (ha:PA X (e::es) t) (hn:x ≠ "__name__":=by decide) (hdb:(x == ("__debug__" : Str))=false:=by decide)
  (he:aK (e::es) X.env=(false,eval e X.env)::aK es X.env:=by rfl) (hpl:(ck pos (aK es X.env)).any (·.1)=false:=by rfl):PE X (.Call (.Name x p) (e::es) [] pos) (tCB r t):=by
 intro pins s σ H Q I h
 refine cJ (y8 I hg hm hv ?_ hn hdb)
 exact PyProof.Rows.callWith_builtin1 (thn (ha pos pins s σ H _ I h) λus s1 ⟨vs,H1,I1,r1,q1⟩=>hc pins s1 σ H1 vs us Q I1 r1 q1) he hpl
theorem jT (hc:qA X (.type T) r) (hg:Gl X x) (hm:X.mg x=none) (hv:eC x=some (.type T)) (ha:PA X (e::es) t) (hn:x ≠ "__name__":=by decide) (hdb:(x == ("__debug__" : Str))=false:=by decide)
  (he:aK (e::es) X.env=(false,eval e X.env)::aK es X.env:=by rfl) (hpl:(ck pos (aK es X.env)).any (·.1)=false:=by rfl):PE X (.Call (.Name x p) (e::es) [] pos) (tCB r t):=by
 intro pins s σ H Q I h
 refine cJ (y8 I hg hm hv ?_ hn hdb)
 exact c0 (thn (ha pos pins s σ H _ I h) λus s1 ⟨vs,H1,I1,r1,q1⟩=>hc pins s1 σ H1 vs us Q I1 r1 q1) he hpl
end
end L2
namespace HT
open PySem PyProof.Rows
section
open PySem.SeqAt
open PySem.AutoSeq1 (wpAny_loadPart')
open PySem.MeetsSeq PySem.MeetsSeq2 PySem.MeetsSeq3
end
section
variable {prog:Program}{w:aX}{A:bg}{E:ae->Shared->Prop}{s:Shared}
def sIx (n d:Nat):Option Int->Nat
 | none=>d
 | some v=>if v<0 then (v+(n:Int)).toNat else min v.toNat n
theorem sIx_none (n d:Nat):sIx n d none=d:=rfl
theorem sIx_nat (n d k:Nat):sIx n d (some (k:Int))=min k n:=by
 show (if (k:Int)<0 then ((k:Int)+(n:Int)).toNat else min (k:Int).toNat n)=min k n
 rw [if_neg ∅,bK]
theorem slicePart_ {v:ae}{o:Option Int}{Q:Option Int->Shared->Prop}(p:nW v o) (h:Q o s):ay (aA prog w) A (Builtin.Slice.slicePartIndex v) Q E s:=by
 cases p with
 | none=>exact slicePart_none h
 | int i t=>exact slicePart_int h
end
end HT
namespace L2
abbrev TO:=St->Hp->(Option Int->Hp->Prop)->Prop
def PO (X:Cx) (e:Option Expr) (t:TO):Prop :=
 ∀(pins:List (Addr×Obj)) (s:Shared) (σ:St) (H:Hp) (Q:Option Int->Hp->Prop),Inv X pins σ H s->t σ H Q ->
  ay (aA X.prog X.w) X.A (evalPart e X.env) (λu s'=>∃o H',Inv X pins σ H' s'/\nW u o/\Q o H') X.xe s
def Yy:TO:=λ_ H Q=>Q none H
def UI (t:TE):TO:=λσ H Q=>t σ H λx H1=>∃i,x = .int i/\Q (some i) H1
section
variable {X:Cx}{e:Expr}{te:TE}{lo hi:Option Expr}{tl th:TO}{pos p2:Pos}
theorem QW:PO X none Yy:=by
 intro pins s σ H Q I h
 rw [i8]
 exact wpAny_pure ⟨none,H,I,.none,h⟩
theorem QJ (h:PE X e te):PO X (some e) (UI te):=by
 intro pins s σ H Q I hw
 rw [lO]
 refine thn (h pins s σ H _ I hw) λu s1 ⟨x,H1,I1,r1,q1⟩=>?_
 obtain ⟨i,rfl,q⟩:=q1
 obtain ⟨t,rfl⟩:=r1
 exact ⟨some i,H1,I1,.int i t,q⟩
def SlR (X:Cx) (r:V->Option Int->Option Int->Hp->VK->Prop):Prop :=
 ∀(pins:List (Addr×Obj)) (s:Shared) (σ:St) (H:Hp) (x:V) (v vl vu:ae) (lo hi:Option Int) (sl:Addr) (Q:VK),Inv X pins σ H s->jA x v->s.heap.IsSliceOf sl vl vu .none->nW vl lo->nW vu hi->r x lo hi H Q ->
  ∃T id,nX (.type T) "__getitem__" = pure (some (.builtin id))/\s.TypeIs v T/\ay (aA X.prog X.w) X.A (iI v (.ref sl)) (EP X pins σ Q) X.xe s
def tSl (r:V->Option Int->Option Int->Hp->VK->Prop) (te:TE) (tl th:TO):TE:=λσ H Q=>te σ H λx H1=>tl σ H1 λl H2=>th σ H2 λu H3=>r x l u H3 Q
theorem Ja {r:V->Option Int->Option Int->Hp->VK->Prop}(hr:SlR X r) (he:PE X e te) (hl:PO X lo tl) (hu:PO X hi th):PE X (.Subscript e (.Slice lo hi none p2) pos) (tSl r te tl th):=by
 intro pins s σ H Q I h
 refine iJ (thn (he pins s σ H _ I h) λv s1 ⟨x,H1,I1,r1,q1⟩=>?_)
 refine mU (thn (hl pins s1 σ H1 _ I1 q1) λvl s2 ⟨l,H2,I2,pl,q2⟩=>thn (hu pins s2 σ H2 _ I2 q2) λvu s3 ⟨u,H3,I3,pu,q3⟩=>?_)
 rw [i8]
 refine wpAny_pure ?_
 have I4:Inv X pins σ H3 { s3 with heap:=s3.heap.push { cls:=.type "slice",data:=.fields #[vl,vu,.none] } }:=I3.kept (t':=s3.toks) λb ob q=>aj _ q
 obtain ⟨T,id,hT,ht,hg⟩:=hr pins { s3 with heap:=s3.heap.push { cls:=.type "slice",data:=.fields #[vl,vu,.none] } } σ H3 x v vl vu l u s3.heap.objs.size Q I4 r1 (fR ..) pl pu q3
 show ay (aA X.prog X.w) X.A (fg e (.Slice lo hi none p2) v (.ref s3.heap.objs.size)) (EP X pins σ Q) X.xe { s3 with heap:=s3.heap.push { cls:=.type "slice",data:=.fields #[vl,vu,.none] } }
 exact oV (ops:=[.ref s3.heap.objs.size,v]) ht hT hg (by with_unfolding_all rfl)
def gA (xs:List V) (lo hi:Option Int):List V:=(xs.drop (HT.sIx xs.length 0 lo)).take (HT.sIx xs.length xs.length hi-HT.sIx xs.length 0 lo)
theorem Jz (xs:List V) (lo hi:Option Int):(gA xs lo hi).length<=xs.length:=by
 unfold gA
 rw [aW,d0]
 omega
end
end L2
namespace L2
def ixN (n:Nat) (i:Int):Option Nat:=if 0<=i then (if i<n then some i.toNat else none) else if -(n:Int)<=i then some (i+n).toNat else none
def atI {α:Type}(xs:List α) (i:Int):Option α:=(ixN xs.length i).bind λj=>xs[j]?
theorem Xk {n:Nat}{i:Int}{j:Nat}(h:ixN n i=some j):seqIndex? i n=some j/\j<n /\ -(n:Int)<=i/\i<n:=by
 unfold ixN at h
 by_cases h0:0<=i
 ·rw [if_pos h0] at h
  by_cases h1:i<n
  ·rw [if_pos h1] at h
   have e:i.toNat=j:=aR h
   exact ⟨by rw [mV h0 h1,e],∅,∅,h1⟩
  ·rw [if_neg h1] at h;cases h
 ·rw [if_neg h0] at h
  by_cases h1 : -(n:Int)<=i
  ·rw [if_pos h1] at h
   have e:(i+n).toNat=j:=aR h
   exact ⟨by rw [mw ∅ h1,e],∅,h1,∅⟩
  ·rw [if_neg h1] at h;cases h
theorem QK {α:Type}{xs:List α}{i:Int}{v:α}(h:atI xs i=some v):∃j,seqIndex? i xs.length=some j/\xs[j]? = some v/\j<xs.length /\ -(xs.length:Int)<=i/\i<xs.length:=by
 unfold atI at h
 cases e:ixN xs.length i with
 | none=>rw [e] at h;cases h
 | some j =>
  rw [e] at h
  obtain ⟨h1,h2,h3,h4⟩:=Xk e
  exact ⟨j,h1,h,h2,h3,h4⟩
theorem xW {α:Type}{xs:List α}{j:Nat}{v:α}(h:xs[j]? = some v):atI xs (j:Int)=some v:=by
 have hj:j<xs.length:=(List.getElem?_eq_some_iff.mp h).1
 have e:ixN xs.length (j:Int)=some j:=by
  unfold ixN
  rw [if_pos ∅,if_pos ∅];simp
 unfold atI;rw [e];exact h
theorem Jl {α:Type}(xs:List α) (v:α):atI (xs++[v]) (-1)=some v:=by
 have hl:(xs++[v]).length=xs.length+1:=by simp
 have e:ixN (xs++[v]).length (-1)=some xs.length:=by
  unfold ixN
  rw [hl,if_neg ⋯,if_pos ∅]
  congr 1
  omega
 unfold atI
 rw [e]
 show (xs++[v])[xs.length]? = some v
 simp
def Yp (b:Expr):Prop:=∀o i,lp b false o i=operate [o,i] (iI o i)
def IxR (X:Cx) (r:R2):Prop :=
 ∀(value slice:Expr) (pins:List (Addr×Obj)) (s:Shared) (σ:St) (H:Hp) (x y:V) (v u:ae) (Q:VK),Inv X pins σ H s->jA x v->jA y u->r x y H Q ->
  lp slice false v u=operate [v,u] (iI v u)->ay (aA X.prog X.w) X.A (fg value slice v u) (EP X pins σ Q) X.xe s
def MtR (X:Cx) (id:String) (r:V->List V->Hp->VK->Prop):Prop :=
 ∀(pins:List (Addr×Obj)) (s:Shared) (σ:St) (H:Hp) (x:V) (xs:List V) (v:ae) (us:List ae) (Q:VK),Inv X pins σ H s->jA x v->jz xs us->r x xs H Q ->
  ay (aA X.prog X.w) X.A (call (.builtin id) (v::us)) (EP X pins σ Q) X.xe s
section
variable {X:Cx}{a b:Expr}{ta tb:TE}{pos:Pos}
theorem jp {r:R2}(hr:IxR X r) (ha:PE X a ta) (hb:PE X b tb) (hs:Yp b):PE X (.Subscript a b pos) (tOp r ta tb):=by
 intro pins s σ H Q I h
 exact iJ (Ua ha hb I h λv u s2 x y H2 I2 rx ry q=>hr a b pins s2 σ H2 x y v u Q I2 rx ry q (hs _ _))
def Ue (K:ai):R2:=λx y H Q=>∃p xs i v,x = .ref p/\y = .int i/\SqL K H p xs/\atI xs i=some v/\Q v H
def Vs (K:ai):R2:=λx y H Q=>∃p xs i v,x = .ref p/\y = .int i/\SqT K H p xs/\atI xs i=some v/\Q v H
theorem YE:IxR X (Ue X.K):=by
 intro value slice pins s σ H x y v u Q I rx ry h hs
 obtain ⟨p,xs,i,z,rfl,rfl,hq,he,q⟩:=h
 cases rx
 obtain ⟨t,rfl⟩:=ry
 obtain ⟨its,r,pl,hz⟩:=I.list hq
 obtain ⟨j,h1,h2,h3,h4,h5⟩:=QK he
 obtain ⟨w,ew,rw'⟩:=r.get h2
 have hl:=r.length
 have hn:=kW
 have fin:EP X pins σ Q w s:=⟨z,H,I,rw',q⟩
 by_cases h0:0<=i
 ·have hj:i.toNat=j:=by
   rw [mV h0 h5] at h1
   exact aR h1
  exact item_listR pl.isList h0 ∅ (by rw [hj];simpa using ew) fin hs
 ·have hj:(i+(its.toArray.size:Int)).toNat=j:=by
   rw [mw ∅ h4] at h1
   rw [aw,<- hl]
   exact aR h1
  exact iK (x:=w) pl.isList.typeIs slot_list_getitem.lookup
   (wpAny_getItem_list_neg (Q:=λr s'=>r=w/\EP X pins σ Q r s') pl.isList ∅ (by rw [aw] <;> omega) ∅ (by rw [hj];simpa using ew) ⟨rfl,fin⟩) hs
theorem VT:IxR X (Vs X.K):=by
 intro value slice pins s σ H x y v u Q I rx ry h hs
 obtain ⟨p,xs,i,z,rfl,rfl,hq,he,q⟩:=h
 cases rx
 obtain ⟨t,rfl⟩:=ry
 obtain ⟨its,r,pl,hz⟩:=I.tuple hq
 obtain ⟨j,h1,h2,h3,h4,h5⟩:=QK he
 obtain ⟨w,ew,rw'⟩:=r.get h2
 have hl:=r.length
 have hn:=kW
 have fin:EP X pins σ Q w s:=⟨z,H,I,rw',q⟩
 exact iK (x:=w) pl.typeIs slot_tuple_getitem.lookup
  (getItem_tuple (j:=j) (Q:=λr s'=>r=w/\EP X pins σ Q r s') pl ∅ ∅ (by rw [aw,<- hl];exact h1) (by simpa using ew) ⟨rfl,fin⟩) hs
theorem Q5 (its:List ae) (n j:Nat) (u:ae):aQ (·.setIfInBounds j u) { cls:=.type "list",data:=.seq its.toArray n }={ cls:=.type "list",data:=.seq (its.set j u).toArray n }:=by
 simp [aQ]
theorem Inv.lst {pins:List (Addr×Obj)}{σ:St}{H:Hp}{s:Shared}{p:Addr}{xs:List V}(I:Inv X pins σ H s) (h:H p=some (.lst xs)) :
  ∃(its:List ae) (n:Nat),jz xs its/\s.heap.get? p=some { cls:=.type "list",data:=.seq its.toArray n }/\xs.length<=sizeLine:=by
 obtain ⟨z,its,n,r,e⟩:=I.hok p _ h
 exact ⟨its,n,r,e,z⟩
theorem Inv.lstUpd {pins:List (Addr×Obj)}{σ:St}{H:Hp}{s:Shared}{p:Addr}{xs ys:List V}{its its':List ae}{n n':Nat}{f:Obj->Obj}(I:Inv X pins σ H s) (h:H p=some (.lst xs))
  (ho:s.heap.get? p=some { cls:=.type "list",data:=.seq its.toArray n }) (hf:f { cls:=.type "list",data:=.seq its.toArray n }={ cls:=.type "list",data:=.seq its'.toArray n' }) (r:jz ys its') (hz:ys.length<=sizeLine) (t:Nat) :
  Inv X pins σ (upd H p (.lst ys)) { s with heap:=s.heap.update p f,toks:=t }:=by
 have e:(s.heap.update p f).get? p=some { cls:=.type "list",data:=.seq its'.toArray n' }:=by
  rw [eY f ho (by rw [hf] <;> rfl),hf]
 refine I.write (x:=p) (e:=p) (by rw [h];trivial) (.inl rfl) (λb u hb q=>(c7 _ _ (cY hb)).trans q) ⟨_,e⟩ ?_
 exact ⟨hz,its',n',r,e⟩
def UO:V->V->V->Hp->(Hp->Prop)->Prop:=λo i v H Q=>∃p xs k j,o = .ref p/\i = .int k/\H p=some (.lst xs)/\ixN xs.length k=some j/\Q (upd H p (.lst (xs.set j v)))
theorem y9:UU X UO:=by
 intro pins s σ H o i v ov iv u Q I ro ri rv h
 obtain ⟨p,xs,k,j,rfl,rfl,hp,hj,q⟩:=h
 cases ro
 obtain ⟨t,rfl⟩:=ri
 obtain ⟨its,n,r,ho,hz⟩:=I.lst hp
 obtain ⟨h1,h2,h3,h4⟩:=Xk hj
 have hl:=r.length
 have hn:=kW
 have I':Inv X pins σ (upd H p (.lst (xs.set j v))) { s with heap:=s.heap.update p (aQ (·.setIfInBounds j u)) } :=
  I.lstUpd hp ho (Q5 its n j u) (r.set rv j) (by rw [cQ];exact hz) s.toks
 by_cases h0:0<=k
 ·have hk:k.toNat=j:=by
   rw [mV h0 h4] at h1
   exact aR h1
  exact PySem.W.ki_setAt ho h0 ∅ (by rw [aw,<- hl];exact h4) (by rw [hk];exact ⟨_,I',q⟩)
 ·have hk:(k+(its.toArray.size:Int)).toNat=j:=by
   rw [mw ∅ h3] at h1
   rw [aw,<- hl]
   exact aR h1
  exact PySem.W.ki_setBack ho ∅ (by rw [aw,<- hl];exact h3) ∅ (by rw [hk];exact ⟨_,I',q⟩)
theorem kP (lo hi:Option Int) (n:Nat):(dW lo hi none n).1=((HT.sIx n 0 lo:Nat):Int)/\(dW lo hi none n).2.1=((HT.sIx n n hi:Nat):Int)/\(dW lo hi none n).2.2=1:=by
 refine ⟨?_,?_,rfl⟩
 ·cases lo with
  | none=>simp [dW,HT.sIx]
  | some i =>
   simp only [dW,HT.sIx,mL,show (1:Int) > 0 by decide,if_true]
   by_cases h:i<0
   ·simp only [h,if_true] <;> omega
   ·simp only [h,if_false] <;> omega
 ·cases hi with
  | none=>simp [dW,HT.sIx]
  | some i =>
   simp only [dW,HT.sIx,mL,show (1:Int) > 0 by decide,if_true]
   by_cases h:i<0
   ·simp only [h,if_true] <;> omega
   ·simp only [h,if_false] <;> omega
theorem wP (its:List ae) (lo hi:Option Int):slicePick its.toArray lo hi none=((its.drop (HT.sIx its.length 0 lo)).take (HT.sIx its.length its.length hi-HT.sIx its.length 0 lo)).toArray:=by
 obtain ⟨h1,h2,h3⟩:=kP lo hi its.toArray.size
 unfold slicePick
 rw [h1,h2,h3]
 simp only [sliceRange_one,pick_run,aw] <;> rfl
def rSlL (K:ai):V->Option Int->Option Int->Hp->VK->Prop:=λx lo hi H Q=>∃a xs,x = .ref a/\SqL K H a xs/\∀p,H p=none->Q (.ref p) (upd H p (.lst (gA xs lo hi)))
theorem YU:SlR X (rSlL X.K):=by
 intro pins s σ H x v vl vu lo hi sl Q I rx hs pl pu h
 obtain ⟨a,xs,rfl,hx,q⟩:=h
 cases rx
 obtain ⟨its,r,ht,hz⟩:=I.list hx
 have hlen:=r.length
 refine ⟨"list",_,slot_list_getitem.lookup,ht.isList.typeIs,?_⟩
 refine i9 ht.isList hs pl pu .none (by simp) ?_ (by rw [aw] <;> omega)
 rw [wP,<- hlen]
 refine ⟨.ref s.heap.objs.size,_,I.laid (t':=s.toks) (o:=.lst (gA xs lo hi)) (λb ob q=>aj _ q) (ao _) ?_,rfl,q _ (I.hok.fresh (ao _))⟩
 exact ⟨aG (Jz xs lo hi) hz,_,0,(r.drop (HT.sIx xs.length 0 lo)).take (HT.sIx xs.length xs.length hi-HT.sIx xs.length 0 lo),aD _ rfl⟩
def vA:V->Bool
 | .non=>true
 | .bl _=>true
 | .int _=>true
 | .str _=>true
 | _=>false
def eqV:V->V->Bool
 | .non,.non=>true
 | .bl a,.bl b=>a == b
 | .bl a,.int b=>(if a then 1 else 0) == b
 | .int a,.bl b=>a == (if b then 1 else 0)
 | .int a,.int b=>a == b
 | .str a,.str b=>a == b
 | _,_=>false
theorem VZ {A:bg}{s:Shared}{y x:V}{u v:ae}(ry:jA y u) (rx:jA x v) (fy:vA y=true) (fx:vA x=true):SeqAt.EqAt A s u v (eqV y x):=by
 cases y with
 | non =>
  cases ry
  cases x with
  | non=>cases rx;exact SeqAt.EqAt.same _
  | bl b=>cases rx;exact SeqAt.EqAt.none_bool b
  | int b=>obtain ⟨t,rfl⟩:=rx;exact SeqAt.EqAt.none_int b t
  | str b=>obtain ⟨t,rfl⟩:=rx;exact SeqAt.EqAt.none_str b t
  | _=>exact absurd (show false=true from fx) aq
 | bl a =>
  cases ry
  cases x with
  | non=>cases rx;exact SeqAt.EqAt.bool_none a
  | bl b=>cases rx;exact SeqAt.EqAt.bool_bool a b
  | int b=>obtain ⟨t,rfl⟩:=rx;exact SeqAt.EqAt.bool_int a b t
  | str b=>obtain ⟨t,rfl⟩:=rx;exact SeqAt.EqAt.bool_str a b t
  | _=>exact absurd (show false=true from fx) aq
 | int a =>
  obtain ⟨t',rfl⟩:=ry
  cases x with
  | non=>cases rx;exact SeqAt.EqAt.int_none a t'
  | bl b=>cases rx;exact SeqAt.EqAt.int_bool a t' b
  | int b=>obtain ⟨t,rfl⟩:=rx;exact SeqAt.EqAt.int_int a t' b t
  | str b=>obtain ⟨t,rfl⟩:=rx;exact lS a t' b t
  | _=>exact absurd (show false=true from fx) aq
 | str a =>
  obtain ⟨t',rfl⟩:=ry
  cases x with
  | non=>cases rx;exact SeqAt.EqAt.str_none a t'
  | bl b=>cases rx;exact SeqAt.EqAt.str_bool a t' b
  | int b=>obtain ⟨t,rfl⟩:=rx;exact lT a t' b t
  | str b=>obtain ⟨t,rfl⟩:=rx;exact SeqAt.EqAt.str_str a t' b t
  | _=>exact absurd (show false=true from fx) aq
 | _=>exact absurd (show false=true from fy) aq
def eqU (x:V) (u:ae):Bool:=match u with
 | .none=>eqV .non x
 | .bool b=>eqV (.bl b) x
 | .int i _=>eqV (.int i) x
 | .str z _=>eqV (.str z) x
 | _=>false
theorem Y9 {x y:V}{u:ae}(r:jA y u) (f:vA y=true):eqU x u=eqV y x:=by
 cases y with
 | non=>cases r;rfl
 | bl b=>cases r;rfl
 | int i=>obtain ⟨t,rfl⟩:=r;rfl
 | str z=>obtain ⟨t,rfl⟩:=r;rfl
 | _=>exact absurd (show false=true from f) aq
theorem vE {x:V}:∀{xs:List V}{us:List ae},jz xs us->xs.all vA=true->us.any (eqU x)=xs.any λy=>eqV y x
 | _,_,.nil,_=>rfl
 | y::xs,u::us,.cons r t,f=>by
  rw [lP,bh] at f
  rw [dM,dM,Y9 r f.1,vE t f.2]
theorem yd {A:bg}{s:Shared}{x:V}{v:ae}(rx:jA x v) (fx:vA x=true):∀{xs:List V}{us:List ae},jz xs us->xs.all vA=true->∀u∈us,SeqAt.EqAt A s u v (eqU x u)
 | _,_,.nil,_=>λu hu=>by cases hu
 | y::xs,u::us,.cons r t,f=>λu' hu=>by
  rw [lP,bh] at f
  rcases List.mem_cons.mp hu with rfl | hu
  ·rw [Y9 r f.1];exact VZ r rx f.1 fx
  ·exact yd rx fx t f.2 u' hu
def inV (x:V) (xs:List V):Bool:=xs.any λy=>eqV y x
def rIn (K:ai) (neg:Bool):R2:=λx y H Q=>∃p xs,y = .ref p/\(SqL K H p xs\/SqT K H p xs)/\vA x=true/\xs.all vA=true/\Q (.bl (if neg then !inV x xs else inV x xs)) H
theorem XC:OpR X (bQ .In) (rIn X.K false):=by
 intro pins s σ H x y v u Q I rx ry h
 obtain ⟨p,xs,rfl,hq,fx,fs,q⟩:=h
 cases ry
 rcases hq with hq | hq
 ·obtain ⟨its,r,pl,hz⟩:=I.list hq
  refine SeqAt.in_listAt (eqU x) pl.isList (λw hw=>yd rx fx r fs w (by simpa using hw)) ⟨.bl _,H,I,rfl,?_⟩
  rw [show its.toArray.any (eqU x)=its.any (eqU x) by simp,vE r fs]
  exact q
 ·obtain ⟨its,r,pl,hz⟩:=I.tuple hq
  refine SeqAt.in_tupleAt (eqU x) pl (λw hw=>yd rx fx r fs w (by simpa using hw)) ⟨.bl _,H,I,rfl,?_⟩
  rw [show its.toArray.any (eqU x)=its.any (eqU x) by simp,vE r fs]
  exact q
theorem kX:OpR X (bQ .NotIn) (rIn X.K true):=by
 intro pins s σ H x y v u Q I rx ry h
 obtain ⟨p,xs,rfl,hq,fx,fs,q⟩:=h
 cases ry
 rcases hq with hq | hq
 ·obtain ⟨its,r,pl,hz⟩:=I.list hq
  refine SeqAt.notIn_listAt (eqU x) pl.isList (λw hw=>yd rx fx r fs w (by simpa using hw)) ⟨.bl _,H,I,rfl,?_⟩
  rw [show its.toArray.any (eqU x)=its.any (eqU x) by simp,vE r fs]
  exact q
 ·obtain ⟨its,r,pl,hz⟩:=I.tuple hq
  refine SeqAt.notIn_tupleAt (eqU x) pl (λw hw=>yd rx fx r fs w (by simpa using hw)) ⟨.bl _,H,I,rfl,?_⟩
  rw [show its.toArray.any (eqU x)=its.any (eqU x) by simp,vE r fs]
  exact q
theorem kS:qA X (.builtin "len") (λxs H Q=>∃p ys,xs=[.ref p]/\(SqL X.K H p ys\/SqT X.K H p ys)/\Q (.int ys.length) H):=by
 intro pins s σ H xs us Q I r h
 obtain ⟨p,ys,rfl,hq,q⟩:=h
 obtain ⟨u,rfl,rx⟩:=zt r
 cases rx
 have hn:=kW
 rcases hq with hq | hq
 ·obtain ⟨its,r',pl,hz⟩:=I.list hq
  have hlen:=r'.length
  exact Calls.call_len_list pl.isList (by simp only [aw] <;> omega) ⟨.int ys.length,H,I.tok _,⟨s.toks+1,by rw [aw,hlen]⟩,q⟩
 ·obtain ⟨its,r',pl,hz⟩:=I.tuple hq
  have hlen:=r'.length
  exact len_tuple pl (by simp only [aw] <;> omega) ⟨.int ys.length,H,I.tok _,⟨s.toks+1,by rw [aw,hlen]⟩,q⟩
theorem gg:qA X (.type "list") (λxs H Q=>∃p ys,xs=[.ref p]/\(SqL X.K H p ys\/SqT X.K H p ys)/\∀l,H l=none->Q (.ref l) (upd H l (.lst ys))):=by
 intro pins s σ H xs us Q I r h
 obtain ⟨p,ys,rfl,hq,q⟩:=h
 obtain ⟨u,rfl,rx⟩:=zt r
 cases rx
 have fin:∀(its:List ae),jz ys its->ys.length<=sizeLine->∀(h':Heap) (c':Nat),(∀b o',s.heap.get? b=some o'->h'.get? b=some o') ->
   h'.get? s.heap.objs.size=some { cls:=.type "list",dict:=none,data:=.seq its.toArray c',slots:=#[] }->EP X pins σ Q (.ref s.heap.objs.size) { s with heap:=h' }:=λits r' hz h' c' kp e =>
  ⟨.ref s.heap.objs.size,_,I.laid (t':=s.toks) kp (ao _) (show jY X.prog X.w _ h' _ (.lst ys) from ⟨hz,its,c',r',e⟩),rfl,q _ (I.hok.fresh (ao _))⟩
 rcases hq with hq | hq
 ·obtain ⟨its,r',pl,hz⟩:=I.list hq
  have hlen:=r'.length
  obtain ⟨o,ho,hc,n,hd⟩:=pl.isList
  exact oB p (.inl rfl) ho hc hd (λh' c' kp e=>fin its r' hz h' c' kp e) (by simp only [aw] <;> omega)
 ·obtain ⟨its,r',pl,hz⟩:=I.tuple hq
  have hlen:=r'.length
  obtain ⟨o,ho,hc,n,hd⟩:=pl
  exact oB p (.inr rfl) ho hc hd (λh' c' kp e=>fin its r' hz h' c' kp e) (by simp only [aw] <;> omega)
theorem wS:qA X (.type "tuple") (λxs H Q=>∃p ys,xs=[.ref p]/\((SqL X.K H p ys/\∀l,H l=none->Q (.ref l) (upd H l (.tup ys)))\/(SqT X.K H p ys/\Q (.ref p) H))):=by
 intro pins s σ H xs us Q I r h
 obtain ⟨p,ys,rfl,h⟩:=h
 obtain ⟨u,rfl,rx⟩:=zt r
 cases rx
 rcases h with ⟨hq,q⟩ | ⟨hq,q⟩
 ·obtain ⟨its,r',pl,hz⟩:=I.list hq
  have hlen:=r'.length
  refine call_tuple_list pl.isList (λh' kp=>?_) (by simp only [aw] <;> omega)
  have I1:Inv X pins σ H { s with heap:=h' }:=I.kept (t':=s.toks) kp
  have I2:Inv X pins σ (upd H h'.objs.size (.tup ys)) { s with heap:=h'.push { cls:=.type "tuple",data:=.seq its.toArray } } :=
   I1.laid (t':=s.toks) (λb o e=>aj _ e) (ao _) (show jY X.prog X.w _ _ _ (.tup ys) from ⟨hz,its,r',IsTup.new _ _⟩)
  exact ⟨.ref h'.objs.size,_,I2,rfl,q _ (I1.hok.fresh (ao _))⟩
 ·obtain ⟨its,r',pl,hz⟩:=I.tuple hq
  exact call_tuple_same pl ⟨.ref p,H,I,rfl,q⟩
def tyV (K:ai) (T:String) (x:V) (H:Hp):Prop:=match x with
 | .str _=>T = "str"
 | .int _=>T = "int"
 | .ref p=>(T = "list" /\ ∃xs,SqL K H p xs)\/(T = "tuple" /\ ∃o,K.lookup p=some o/\o.cls = .type "tuple" /\ o.dict=none) \/
   (T = "dict" /\ ((∃kvs,H p=some (.dK kvs))\/∃kvs,H p=some (.dT kvs)))\/(T = "set" /\ ∃S n,H p=some (.set S n))
 | _=>False
theorem VO {pins:List (Addr×Obj)}{σ:St}{H:Hp}{s:Shared}{T:String}{x:V}{v:ae}(I:Inv X pins σ H s) (r:jA x v) (ty:tyV X.K T x H) :
  s.TypeIs v T/\∀a,v = .ref a->∃ob,s.heap.get? a=some ob/\ob.dict=none:=by
 cases x with
 | str z =>
  obtain ⟨t,rfl⟩:=r
  cases (show T = "str" from ty)
  exact ⟨typeIs_str s z t,λ_ e=>nomatch e⟩
 | int i =>
  obtain ⟨t,rfl⟩:=r
  cases (show T = "int" from ty)
  exact ⟨typeIs_int s i t,λ_ e=>nomatch e⟩
 | ref p =>
  cases r
  rcases ty with ⟨rfl,xs,hq⟩ | ⟨rfl,o,hk,hc,hd⟩ | ⟨rfl,hk⟩ | ⟨rfl,S,n,hk⟩
  ·obtain ⟨its,_,pl,_⟩:=I.list hq
   refine ⟨pl.isList.typeIs,λa e=>?_⟩
   cases e
   obtain ⟨o,n,e,c,hd,_⟩:=pl
   exact ⟨o,e,hd⟩
  ·refine ⟨⟨o,I.kIn p o hk,hc⟩,λa e=>?_⟩
   cases e
   exact ⟨o,I.kIn _ o hk,hd⟩
  ·have z:∃o,s.heap.get? p=some o/\o.ExactDict:=by
    rcases hk with ⟨kvs,hk⟩ | ⟨kvs,hk⟩
    ·obtain ⟨_,_,_,_,o,_,_,e,ex,_⟩:=I.hok p _ hk
     exact ⟨o,e,ex⟩
    ·obtain ⟨_,_,_,_,o,_,_,e,ex,_⟩:=I.hok p _ hk
     exact ⟨o,e,ex⟩
   obtain ⟨o,e,ex⟩:=z
   refine ⟨⟨o,e,ex.1⟩,λa e2=>?_⟩
   cases e2
   exact ⟨o,e,ex.2.1⟩
  ·obtain ⟨o,_,_,_,e,ex,_⟩:=I.hok p _ hk
   refine ⟨⟨o,e,ex.1⟩,λa e2=>?_⟩
   cases e2
   exact ⟨o,e,ex.2.1⟩
 | _=>exact bp ty
def tBM (K:ai) (T:String) (r:V->List V->Hp->VK->Prop) (to:TE) (t:TA):TE:=λσ H Q=>to σ H λx H1=>tyV K T x H1/\t σ H1 λxs H2=>r x xs H2 Q
variable {o e:Expr}{es:List Expr}{to:TE}{t:TA}{name:Str}{apos cpos:Pos}{T id:String}{r:V->List V->Hp->VK->Prop}
theorem UQ (pa:PlainAttrs T) (slot:Slot T name id) (hty:oM (.builtin id)=pure (.type "method_descriptor")) (hm:MtR X id r) (ho:PE X o to) (ha:PA X (e::es) t)
  (hbase:dJ o name X.env (eval o X.env)=eval o X.env:=by rfl)
  (hfew:((ck cpos (aK (e::es) X.env)).all (λx=>!x.1) && (fN cpos (dz [] X.env)).all (λx=>x.1.isSome)
   && decide ((e::es).length+([]:List iH).length+(if ([]:List iH).isEmpty then 0 else 1)<30))=true:=by rfl)
  (hline:(apos.endLine == cpos.line)=true:=by rfl) (hs:aK (e::es) X.env=(false,eval e X.env)::aK es X.env:=by rfl) (hplain:(ck cpos (aK es X.env)).any (·.1)=false:=by rfl) :
  PE X (.Call (.Attribute o name apos) (e::es) [] cpos) (tBM X.K T r to t):=by
 intro pins s σ H Q I h
 refine wpAny_Call_method_late hbase hfew hline rfl (thn (ho pins s σ H _ I h) λv s1 ⟨x,H1,I1,r1,ty,q1⟩=>?_)
 obtain ⟨h1,h2⟩:=VO I1 r1 ty
 refine ⟨T,id,pa,slot,hty,h1,h2,?_⟩
 have hA:=ha cpos pins s1 σ H1 _ I1 q1
 rw [hs] at hA ⊢
 refine iL (by show (false || (ck cpos (aK es X.env)).any (·.1))=false;rw [hplain] <;> rfl) (fq ?_)
 exact thn hA λus s2 ⟨vs,H2,I2,r2,q2⟩=>hm pins s2 σ H2 x vs v us Q I2 r1 r2 q2
end
end L2
namespace L2
def MtM (X:Cx) (id:String) (r:V->List V->Hp->VK->Prop):Prop :=
 ∀(pins:List (Addr×Obj)) (s:Shared) (σ:St) (H:Hp) (x:V) (xs:List V) (v:ae) (us:List ae) (Q:VK),Inv X pins σ H s->jA x v->jz xs us->r x xs H Q ->
  ay (aA X.prog X.w) X.A (call (.builtin id) (v::us)) (EP X pins σ Q) X.xe s
theorem jz.one:∀{x:V}{us:List ae},jz [x] us->∃u,us=[u]/\jA x u
 | _,_,.cons r .nil=>⟨_,rfl,r⟩
theorem jz.dropLast {xs:List V}{us:List ae}(h:jz xs us):jz xs.dropLast us.dropLast:=by
 induction h with
 | nil=>exact .nil
 | cons r t ih =>
  cases t with
  | nil=>exact .nil
  | cons q t'=>exact .cons r ih
theorem jz.reverse {xs:List V}{us:List ae}(h:jz xs us):jz xs.reverse us.reverse:=by
 induction h with
 | nil=>exact .nil
 | cons r t ih=>rw [i4,i4];exact jz.append ih (.cons r .nil)
section
variable {X:Cx}{pins:List (Addr×Obj)}{σ:St}{H:Hp}{s:Shared}{l b:Addr}{xs ys zs:List V}
theorem Inv.lset {its its':List ae}{n:Nat}{f:Array ae->Array ae}{t':Nat}(I:Inv X pins σ H s) (hH:H l=some (.lst xs))
  (e:s.heap.get? l=some { cls:=.type "list",data:=.seq its.toArray n }) (hf:f its.toArray=its'.toArray) (hv:jz ys its') (hz:ys.length<=sizeLine) :
  Inv X pins σ (upd H l (.lst ys)) { s with heap:=s.heap.update l (aQ f),toks:=t' }:=by
 have q:=PySem.IsL.update e f
 rw [hf] at q
 refine I.write (x:=l) (e:=l) (by rw [hH];exact trivial) (.inl rfl) (λb' u hb hu=>(c7 s.heap (aQ f) (cY hb)).trans hu) ⟨_,q⟩ ?_
 exact ⟨hz,its',_,hv,q⟩
theorem Inv.lnew {its:List ae}{t':Nat}(I:Inv X pins σ H s) (hv:jz ys its) (hz:ys.length<=sizeLine) :
  Inv X pins σ (upd H s.heap.objs.size (.lst ys)) { s with heap:=s.heap.push { cls:=.type "list",data:=.seq its.toArray },toks:=t' } :=
 I.laid (λ_ _ q=>aj _ q) (ao _) ⟨hz,its,0,hv,aD _ rfl⟩
theorem Inv.fresh (I:Inv X pins σ H s):H s.heap.objs.size=none:=I.hok.fresh (ao _)
theorem Inv.lstM (I:Inv X pins σ H s) (hH:H l=some (.lst xs)):xs.length<=sizeLine/\∃(its:List ae) (n:Nat),jz xs its/\xs.length=its.length/\s.heap.get? l=some { cls:=.type "list",data:=.seq its.toArray n }:=by
 obtain ⟨z,its,n,r,e⟩:=I.hok l _ hH
 exact ⟨z,its,n,r,r.length,e⟩
theorem ZE {n:Nat}(h:n<=sizeLine):dN n=false:=by
 unfold dN
 exact decide_eq_false ∅
end
section
variable {X:Cx}
def Ve:V->List V->Hp->VK->Prop:=λx vs H Q=>∃l xs y,x = .ref l/\vs=[y]/\H l=some (.lst xs)/\xs.length<sizeLine/\Q .non (upd H l (.lst (xs++[y])))
theorem qv:MtM X "list.append" Ve:=by
 intro pins s σ H x vs v us Q I rx rv h
 obtain ⟨l,xs,y,rfl,rfl,hH,hz,q⟩:=h
 cases rx
 obtain ⟨u,rfl,ru⟩:=rv.one
 obtain ⟨z,its,n,r,hl,e⟩:=I.lstM hH
 refine lX F.slot_list_append ⟨_,e,rfl⟩ F.entry_list_append (F.args_list_append_2 _ _) (PySem.list_append l its.toArray n u (by rw [aw];omega)) ⟨e,?_⟩
 refine ⟨.non,_,I.lset (its':=its++[u]) hH e (by simp) (r.append (.cons ru .nil)) ?_,rfl,q⟩
 rw [av,aU]
 omega
def YI:V->List V->Hp->VK->Prop:=λx vs H Q=>∃l b xs zs,x = .ref l/\vs=[.ref b]/\H l=some (.lst xs)/\H b=some (.lst zs)/\xs.length+zs.length<=sizeLine/\Q .non (upd H l (.lst (xs++zs)))
theorem Up:MtM X "list.extend" YI:=by
 intro pins s σ H x vs v us Q I rx rv h
 obtain ⟨l,b,xs,zs,rfl,rfl,hH,hB,hz,q⟩:=h
 cases rx
 obtain ⟨u,rfl,ru⟩:=rv.one
 cases ru
 obtain ⟨z,its,n,r,hl,e⟩:=I.lstM hH
 obtain ⟨z2,its2,n2,r2,hl2,e2⟩:=I.lstM hB
 have hsz:its.toArray.size+its2.toArray.size<=sizeLine:=by rw [aw,aw];omega
 have hlong:¬(!its.toArray.isEmpty && dN (its.toArray.size+its2.toArray.size))=true:=by
  rw [ZE hsz,Bool.and_false]
  exact aq
 refine lX F.slot_list_extend ⟨_,e,rfl⟩ F.entry_list_extend (F.args_list_extend_2 _ _)
  (AutoSeq1.list_extend_list_list_0 l its.toArray n b its2.toArray n2 hlong (by rw [aw];omega) ∅) ⟨e,e2,?_⟩
 refine ⟨.non,_,I.lset (its':=its++its2) hH e (by simp) (r.append r2) ?_,rfl,q⟩
 rw [av]
 omega
def rCat:R2:=λx y H Q=>∃l b xs zs,x = .ref l/\y = .ref b/\H l=some (.lst xs)/\H b=some (.lst zs)/\xs.length+zs.length<=sizeLine/\∀p,H p=none->Q (.ref p) (upd H p (.lst (xs++zs)))
theorem Um:OpR X (fk .Add) rCat:=by
 intro pins s σ H x y v u Q I rx ry h
 obtain ⟨l,b,xs,zs,rfl,rfl,hH,hB,hz,q⟩:=h
 cases rx
 cases ry
 obtain ⟨z,its,n,r,hl,e⟩:=I.lstM hH
 obtain ⟨z2,its2,n2,r2,hl2,e2⟩:=I.lstM hB
 refine PySem.P.add_list e e2 ?_ (by rw [aw,aw];omega)
 have ea:its.toArray++its2.toArray=(its++its2).toArray:=by simp
 rw [ea]
 exact ⟨.ref _,_,I.lnew (t':=s.toks) (r.append r2) (by rw [av];omega),rfl,q _ I.fresh⟩
end
section
variable {prog:Program}{w:aX}{A:bg}{E:ae->Shared->Prop}{s:Shared}
set_option maxRecDepth 100000 in
end
section
variable {X:Cx}
end
end L2
namespace Att
open PySem PySem.W PySem.Calls PyProof.Rows
theorem ur {P:nB}{h:Heap}:∀(ns:List Int) (vs:List ae),WellAll P h vs (ns.map WData.int)->cF vs ns:=by
 intro ns
 induction ns with
 | nil =>
  intro vs w
  rw [dG] at w
  cases w
  exact .nil
 | cons n ns ih =>
  intro vs w
  rw [aH] at w
  cases w with
  | cons a b =>
   cases a
   exact .cons _ _ (ih _ b)
theorem Z3 {l:OpenLaw}{n:Nat}(hn:l.most=some n) {P:nB}{h:Heap}{args:List WData}{vals:List ae}
  (hpre:l.row.toRowW.claim.pre args=true) (hwl:WellAll P h vals args) :
  ∃a vs ns,vals=[aZ a]/\args=[WData.list (ns.map WData.int)]/\h.get? a=some { cls:=.type "list",data:=.seq vs.toArray }/\cF vs ns/\ns.length<=n:=by
 have hsh:WShape.hasAll [] args [.list .int]=true:=(pre_splitW hpre).1
 have hc:l.pre.holds [] { args:=args }=true:=(pre_splitW hpre).2
 obtain ⟨d,r,rfl,h1,h2⟩:=hasAllW_cons hsh
 obtain rfl:=hasAllW_nil h2
 obtain ⟨xs,rfl,h3⟩:=hasW_list h1
 obtain ⟨ns,rfl⟩:=items_int h3
 have hlen:ns.length<=n:=by
  unfold OpenLaw.pre at hc
  have h4:(WTm.not (.lt (.lit (.int (n:Int))) (.len (.arg 0)))).holds [] { args:=[.list (ns.map .int)] }=true:=by
   have h4:=(holds_andW hc).1
   rw [hn] at h4
   exact h4
  have h5:=condW_of h4 (w_not (w_lt w_lit (w_len_list (w_arg rfl))))
  rw [af] at h5
  refine Nat.le_of_not_lt λq=>?_
  have q':(n:Int)<((ns.length:Nat):Int):=∅
  first
   | (rw [decide_eq_true q'] at h5;exact absurd h5 ⋯)
   | (simp at h5;omega)
 cases hwl with
 | cons w1 w2 =>
  cases w2
  cases w1 with
  | list ho hall=>exact ⟨_,_,ns,rfl,rfl,ho,ur ns _ hall,hlen⟩
theorem Xs (l:OpenLaw) (args:List WData):l.row.toRowW.claim.post args (.bool true) args=true :=
 postW_of (r:=l.row.toRowW) (X:=(true == true))
  (show WShape.has [] (.bool true) .bool=true by first | rfl | decide | simp [WShape.has,WShape.arms,WShape.armsAll])
  (show (WTm.eq .res (.lit (.bool true))).value [] { args:=args,res:=some (.bool true),after:=args }=some (.bool (true == true)) from w_eq_bool (w_res rfl) w_lit) rfl
theorem attach_call {l:OpenLaw}{n:Nat}{q:Program}{loose:List Str}{XP:(Str->Option ae)->Heap->Prop}{YP:aX->Heap->Prop}{d:DefRec}
  (hn:l.most=some n) (hdf:d.params.defaults=[])
  (call:∀(w:aX) (s₀ s₁:Shared) (mg mb:Str->Option ae) (fa:Addr) (o:Obj) (pm cd doc:ae) (a:Addr) (vs:List ae) (ns:List Int),
   Ground q loose [] XP w s₀ mg mb s₁.heap->YP w s₁.heap ->
   s₁.heap.get? fa=some o->o.data = .func (docDef d.name d.params d.body d.scope pm cd doc)->s₁.heap.CodeRec cd d.name->mg d.name=some (.ref fa) ->
   s₁.heap.get? a=some { cls:=.type "list",data:=.seq vs.toArray }->cF vs ns->ns.length<=n->s₁.gens = #[] ->
   cE (aA l.prog w) lH (.call (.ref fa) ⟨[.ref a],[]⟩) (λr s'=>r = .ok (.ret (.bool true))/\OldK s₁.heap s'.heap/\s'.os=s₁.os/\ff s'.gens) s₁) :
  WalkO q loose XP YP l.row.toRowW d [] (λf vs=>PySem.call f vs):=by
 intro w s₀ s₁ mg mb G Y fa o pm cd doc dV kV ho hd hcd hD hmg hg args vals as hpre hlay hrd hwl hlo
 obtain rfl:dV = .none:=Dflts.none hD hdf
 obtain rfl:kV = .none:=Dflts.noKw hD
 obtain ⟨a,vs,ns,rfl,rfl,hobj,hints,hlen⟩:=Z3 hn hpre hwl
 refine enter_call (cU (call w s₀ s₁ mg mb fa o pm cd doc a vs ns G Y ho (fd_plain hd) hcd hmg hobj hints hlen hg) λr s' hq=>?_)
 obtain ⟨rfl,h2,h3,h4⟩:=hq
 exact ⟨.inl ⟨.bool true,.bool true,[],rfl,λ_=>rfl,.bool true,Xs l _,λ_=>⟨eN,λ_ hm=>(nomatch hm)⟩⟩,h2,h3,h4⟩
section
variable {prog:Program}{w:aX}{A:bg}{E:ae->Shared->Prop}{s:Shared}{K:Frag}
def ledger (h:Heap) (L d:Addr):List (Addr×Obj):=(aO h.objs.size).filterMap λa=>if a=L\/a=d then none else (h.get? a).map λo=>(a,o)
end
end Att
namespace L2
theorem vT:∀{vs:List ae}{ns:List Int},cF vs ns->jz (ns.map V.int) vs
 | _,_,.nil=>.nil
 | _,_,.cons n t h=>.cons ⟨t,rfl⟩ (vT h)
end L2
namespace L2
end L2
namespace L2
def xG (s:Stmt) (j:Nat):Stmt:=match s with
 | .ClassDef _ _ _ body _ _ _ _ _ _ _=>body.getD j (.Pass ⟨0,0,0,0⟩)
 | _=>.Pass ⟨0,0,0,0⟩
def jP (s:Stmt):Arguments:=match s with
 | .FunctionDef _ a _ _ _ _ _ _ _ _=>a
 | _=>{ posonlyargs:=[],args:=[],vararg:=none,kwonlyargs:=[],kw_defaults:=[],kwarg:=none,defaults:=[] }
def jH (s:Stmt):List Stmt:=match s with
 | .FunctionDef _ _ b _ _ _ _ _ _ _=>b
 | _=>[]
def j8 (s:Stmt):Scope:=match s with
 | .FunctionDef _ _ _ _ _ _ sc _ _ _=>sc
 | _=>{ kind:=.function,names:=[],isGenerator:=false,isCoroutine:=false }
abbrev CX0:CXT:=λ_ _ _ _ _ _=>False
abbrev E0:XK:=λ_ _ _=>False
theorem Vp {X:Cx}:hE CX0 X E0:=λ_ _ _ _ _ _ _ h=>h.elim
structure Fun (K:ai) (x qual:Str) (st:Stmt) (f:Addr) (fd:FuncData):Prop where
 ex:∃(oc:ae) (od:Option Addr) (kV doc pm:ae) (an:Option Addr) (cdv ct:ae) (osl:Array (Option ae)),
  fd=bw x qual (jP st) (jH st) (j8 st) .none kV doc pm an cdv ct/\K.lookup f=some ⟨oc,od,.func fd,osl⟩/\c6 K cdv qual=true
 kp:bD K (.ref f)=true
section
variable {P:Program}{w:aX}{K:ai}{mg:Str->Option ae}{base:Heap}
theorem Fun.ok {x qual:Str}{st:Stmt}{f:Addr}{fd:FuncData}{N ps:List Str}{k:Nat}{sp:Sp}(F:Fun K x qual st f fd) (S:FnScope N ps (j8 st)) (len:∀vs H Q E,sp vs H Q E->vs.length=ps.length)
  (hbody:∀(cdv:ae) (A:bg) (outer:List Env) (s:Shared) (H:Hp) (vs:List V) (Q:VK) (E:XK),Room k (A.deeper (i7 qual (j8 st) s.heap.objs.size f cdv))->sp vs H Q E ->
   ∃t,PSs (yO CX0 P w K mg base N qual (j8 st) f cdv A outer s H E).nox (jH st) t/\t { nx:=λ_ H'=>Q .non H',rt:=Q } (start N vs) H):FnOk P w K mg base CX0 (k+1) f fd ps sp:=by
 obtain ⟨oc,od,kV,doc,pm,an,cdv,ct,osl,rfl,lk,hcd⟩:=F.ex
 refine ZJ lk hcd S len λA outer s H vs Q E hr hsp=>?_
 obtain ⟨t,h,q⟩:=hbody cdv A outer s H vs Q E hr hsp
 exact ⟨t,h.nox,q⟩
theorem Fun.binds {x qual:Str}{st:Stmt}{f:Addr}{fd:FuncData}{ps:List Str}(F:Fun K x qual st f fd)
  (h:∀(kV doc pm:ae) (an:Option Addr) (cdv ct:ae) (us:List ae),us.length=ps.length->c5 (bw x qual (jP st) (jH st) (j8 st) .none kV doc pm an cdv ct) ⟨us,[]⟩=pure (ps.zip us)):zP K fd ps []:=by
 obtain ⟨oc,od,kV,doc,pm,an,cdv,ct,osl,rfl,lk,hcd⟩:=F.ex
 exact .all (h kV doc pm an cdv ct)
theorem yG {x qual:Str}{st:Stmt}{f:Addr}{oc:ae}{od an:Option Addr}{osl:Array (Option ae)}{kV doc pm cdv ct:ae}(l:K.lookup f=some ⟨oc,od,.func (bw x qual (jP st) (jH st) (j8 st) .none kV doc pm an cdv ct),osl⟩)
  (c:c6 K cdv qual=true) (k:bD K (.ref f)=true):Fun K x qual st f (bw x qual (jP st) (jH st) (j8 st) .none kV doc pm an cdv ct):=⟨⟨oc,od,kV,doc,pm,an,cdv,ct,osl,rfl,l,c⟩,k⟩
end
theorem jK {A:bg}{k:Nat}(hr:Room k A):A.units+1<cLine:=bN (Nat.add_le_add_left (by decide:1<=64) _) hr.units
theorem je {n:Nat}(h:n<=1000):n<sizeLine:=bN h ⋯
section
variable {X:Cx}
theorem pv (i:Nat) {x:Str}{pos:Pos}(hN:X.N[i]? = some x:=by rfl) (hv:Vis X.env.scope x:=by first | exact aS rfl | exact lq (aS rfl) | exact lq (lq rfl)) (hd:(x == ("__debug__" : Str))=false:=by decide)
  (hcd:(x == ("__classdict__" : Str))=false:=by decide):PE X (.Name x pos) (VA i):=U8 hN hv hd hcd
end
theorem VD {A B:Prop}(h:B):if false=true then A else B:=by
 rw [if_neg aq]
 exact h
theorem wL {A B:Prop}(h:A):if true=true then A else B:=by
 rw [if_pos rfl]
 exact h
def jn (H H':Hp):Prop:=∀b o,H b=some o->H' b=some o
theorem jn.refl (H:Hp):jn H H:=λ_ _ h=>h
theorem jn.trans {H H1 H2:Hp}(a:jn H H1) (b:jn H1 H2):jn H H2:=λc o h=>b c o (a c o h)
theorem jn.free {H H':Hp}(e:jn H H') {l:Addr}(h:H' l=Option.none):H l=Option.none:=by
 cases q:H l with
 | none=>rfl
 | some o =>
  rw [e l o q] at h
  cases h
end L2
section
namespace L2
theorem QB (env:Env) (f:Str×eL->List (Str×Addr)->Sem (ForInStep (List (Str×Addr))))
  (hf:∀n k r,f (n,k) r=if (k == aY)=true then (oN env n >>= λa=>pure (bE ((n,a)::r))) else pure (bE r)) :
  ∀(names:List (Str×eL)) (acc:List (Str×Addr)),(∀x∈names,x.2 = .free->∃c,env.cells.lookup x.1=some c) ->
  ∃cl,oW names acc f=pure cl/\∀x,cl.lookup x=if (x,aY)∈names then env.cells.lookup x else acc.lookup x:=by
 intro names
 induction names with
 | nil=>intro acc _;exact ⟨acc,rfl,λx=>by rw [if_neg (by simp)]⟩
 | cons y r ih =>
  intro acc h
  obtain ⟨n,k⟩:=y
  have hr:∀x∈r,x.2 = .free->∃c,env.cells.lookup x.1=some c:=λx hx=>h x (az _ hx)
  by_cases hk:k = .free
  ·subst hk
   obtain ⟨c,hc⟩:=h (n,.free) aC rfl
   obtain ⟨cl,e,p⟩:=ih ((n,c)::acc) hr
   refine ⟨cl,?_,λx=>?_⟩
   ·rw [n4,hf,if_pos (by rfl)]
    have e1:oN env n=pure c:=by unfold oN;rw [hc]
    rw [e1]
    exact e
   ·rw [p x]
    by_cases hx:x=n
    ·subst hx
     rw [if_pos (aC),bZ,beq_self_eq_true]
     by_cases hm:(x,aY)∈r
     ·rw [if_pos hm]
     ·rw [if_neg hm];exact hc.symm
    ·have hb:(x == n)=false:=beq_eq_false_iff_ne.mpr hx
     rw [bZ,hb]
     by_cases hm:(x,aY)∈r
     ·rw [if_pos hm,if_pos (az _ hm)]
     ·rw [if_neg hm,if_neg (by
       intro z
       rcases List.mem_cons.mp z with z | z
       ·exact hx (congrArg Prod.fst z)
       ·exact hm z)]
  ·obtain ⟨cl,e,p⟩:=ih acc hr
   have hb:(k == aY)=false:=by simpa using hk
   refine ⟨cl,?_,λx=>?_⟩
   ·rw [n4,hf,hb,if_neg aq]
    exact e
   ·rw [p x]
    by_cases hm:(x,aY)∈r
    ·rw [if_pos hm,if_pos (az _ hm)]
    ·rw [if_neg hm,if_neg (by
      intro z
      rcases List.mem_cons.mp z with z | z
      ·exact hk (congrArg oX z).symm
      ·exact hm z)]
theorem yE {scope:Scope}{env:Env}(h:∀x∈scope.names,x.2 = .free->∃c,env.cells.lookup x.1=some c) :
  ∃cl,lY scope env=pure cl/\∀x,cl.lookup x=if (x,aY)∈scope.names then env.cells.lookup x else none:=by
 have hh:=QB env (λ(x:Str×eL) r=>match x with | (n,k)=>if (k == aY)=true then (oN env n >>= λa=>pure (bE ((n,a)::r))) else pure (bE r)) (λ_ _ _=>rfl) scope.names [] h
 obtain ⟨cl,e,p⟩:=hh
 refine ⟨cl,?_,λx=>by rw [p x];rfl⟩
 unfold lY
 have e':oW scope.names ([]:List (Str×Addr)) (λ(x:Str×eL) r=>match x with | (n,k)=>if (k == aY)=true then (oN env n >>= λa=>pure (bE ((n,a)::r))) else pure (bE r))=(pure cl:Sem _):=e
 show (oW scope.names ([]:List (Str×Addr)) _ >>= λcs=>pure cs)=_
 first
  | (rw [e'];rfl)
  | (simp only [bind_pure];exact e')
structure CompSc (osc:Scope) (ON:List Str) (scope:Scope) (own:Nat) (N:List Str) (caps:List Nat):Prop where
 kind:scope.kind = .function
 nocell:∀y∈scope.names,y.2≠.cell
 loc:∀y∈scope.names,y.2 = .local->scope.names.lookup y.1=some .local
 fre:∀y∈scope.names,y.2 = .free->scope.names.lookup y.1=some .free/\(osc.names.lookup y.1=some .cell\/osc.names.lookup y.1=some .free)
 len:N.length=own+caps.length
 cap:∀p∈(N.drop own).zip caps,ON[p.2]? = some p.1/\(p.1,aY)∈scope.names
def yB (own:Nat) (caps:List Nat) (σ:St):St:=fP own none++caps.map λj=>(σ[j]?).getD none
def Cx.block (X:Cx) (scope:Scope) (cl:List (Str×Addr)) (C:Addr) (N:List Str) (s:Shared) (H:Hp) (ex:List Addr):Cx :=
 { X with N:=N,s₀:=s,H₀:=H,env:=nZ scope cl C X.env,outer:=X.stack,ex:=ex,fn:=λx=>decide (scope.names.lookup x=some .local),pn:=[],xe:=λ_ _=>False }
theorem zG {env:Env}:∀{names:List (Str×eL)}{x:Str}{k:eL},
  (names.map λ(n,k)=>if (k == aY && env.scope.kind == .function && env.kindOf n == some .cell) then (n,fh) else (n,k)).lookup x=some k ->
  ∃k',names.lookup x=some k'/\(k'=k\/(k' = .free/\k = .cell))
 | [],_,_,h=>by simp at h
 | (n,k0)::r,x,k,h=>by
  have ih:=@zG env r x k
  have h':d9 x ((if (k0 == aY && env.scope.kind == .function && env.kindOf n == some .cell)=true then (n,fh) else (n,k0))::r.map λ(n,k)=>if (k == aY && env.scope.kind == .function && env.kindOf n == some .cell) then (n,fh) else (n,k))=some k:=h
  cases hx:x == n with
  | true =>
   by_cases hc:(k0 == aY && env.scope.kind == .function && env.kindOf n == some .cell)=true
   ·rw [if_pos hc,bZ,hx] at h'
    cases h'
    refine ⟨k0,by rw [bZ,hx],.inr ⟨?_,rfl⟩⟩
    rw [bh,bh] at hc
    exact eq_of_beq hc.1.1
   ·rw [if_neg hc,bZ,hx] at h'
    cases h'
    exact ⟨k0,by rw [bZ,hx],.inl rfl⟩
  | false =>
   have h2:d9 x (r.map λ(n,k)=>if (k == aY && env.scope.kind == .function && env.kindOf n == some .cell) then (n,fh) else (n,k))=some k:=by
    by_cases hc:(k0 == aY && env.scope.kind == .function && env.kindOf n == some .cell)=true
    ·rw [if_pos hc,bZ,hx] at h';exact h'
    ·rw [if_neg hc,bZ,hx] at h';exact h'
   obtain ⟨k',e,d⟩:=ih h2
   exact ⟨k',by rw [bZ,hx];exact e,d⟩
def gG (X:Cx) (ifs:List Expr) (t:TT):Prop :=
 ∀(pins:List (Addr×Obj)) (s:Shared) (σ:St) (H:Hp) (Q:Bool->Hp->Prop),Inv X pins σ H s->t σ H Q ->
  ay (aA X.prog X.w) X.A (oW ifs true λc r=>if r=true then do let ok <- isTrue c X.env (eval c X.env);pure (bE ok) else pure (bE r)) (TP X pins σ Q) X.xe s
def UE:TT:=λ_ H Q=>Q true H
theorem jF {X:Cx}:gG X [] UE:=λ_ _ _ H _ I h=>wpAny_tests_nil ⟨H,I,h⟩
theorem w9 {X:Cx}{c:Expr}{t:TT}(h:PT X c t):gG X [c] t:=λpins s σ H Q I hw=>wpAny_tests_one (h pins s σ H Q I hw)
section
variable {prog:Program}{w:aX}{A:bg}{R:lW->Shared->Prop}{s:Shared}
theorem J7 {elt target iter:Expr}{ifs:List Expr}{scope:Scope}{pos:Pos}{it acc:ae}{env:Env}(I:Nat->Shared->Prop)
  (turn:∀n s,I n s->ay (aA prog w) A (lj it) (λr s₁=>match r with
   | none=>R (.ok .next) s₁
   | some v=>ay (aA prog w) A (cz target it v) (λ_ s₂=>ay (aA prog w) A (fz target env v) (λ_ s₃ =>
     ay (aA prog w) A (oW ifs true λc r=>if r=true then do let ok <- isTrue c env (eval c env);pure (bE ok) else pure (bE r)) (λok s₄ =>
      if ok=true then ay (aA prog w) A (eval elt env) (λx s₅ =>
       ay (aA prog w) A (call (.builtin "list.append") [acc,x]) (λ_ s₆=>∃m,m<n/\I m s₆) (λ_ _=>False) s₅) (λ_ _=>False) s₄
      else ∃m,m<n/\I m s₄) (λ_ _=>False) s₃) (λ_ _=>False) s₂) (λ_ _=>False) s₁) (λ_ _=>False) s)
  (n:Nat) (h:I n s) :
  cE (aA prog w) A (.compLoop (.ListComp elt [⟨target,iter,ifs,0⟩] scope pos) 0 it acc env) R s:=by
 refine mx rfl I (λn s hI=>?_) n h
 show ay _ A ((my (.ListComp elt [⟨target,iter,ifs,0⟩] scope pos) 0 it acc env).onRaise (λx=>do fK x env;iV x)) _ _ s
 refine mW ?_
 rw [compTurn_list]
 refine ah (cH (ah (aV (turn n s hI) (λr s₁ h₁=>?_) λ_ _ h'=>h'.elim)))
 cases r with
 | none=>exact wpAny_pure h₁
 | some v =>
  refine ah (aV h₁ (λ_ s₂ h₂=>?_) λ_ _ h'=>h'.elim)
  refine ah (aV h₂ (λ_ s₃ h₃=>ah (aV h₃ (λok s₄ h₄=>?_) λ_ _ h'=>h'.elim)) λ_ _ h'=>h'.elim)
  cases ok with
  | false=>exact wpAny_pure ⟨rfl,h₄⟩
  | true =>
   exact ah (ah (aV h₄ (λx s₅ h₅=>ah (aV h₅ (λ_ s₆ h₆=>wpAny_pure (wpAny_pure ⟨rfl,h₆⟩)) λ_ _ h'=>h'.elim)) λ_ _ h'=>h'.elim))
end
section
variable {X:Cx}{pos:Pos}
def Vo (own:Nat) (caps:List Nat) (wi:TI) (g:TG) (ti:TT) (te:TE):TE:=λσ H Q=>wi σ H λJ H1=>∀acc,H1 acc=none ->
 ∃W:Nat->Nat->St->Hp->Prop,(∃m,W 0 m (yB own caps σ) (upd H1 acc (.lst [])))/\∀i m σ' H',W i m σ' H' ->
  (J.stop i H'/\Q (.ref acc) H') \/
  (J.go i H'/\∃NX:St->Hp->Prop,(∀σ2 H2,NX σ2 H2->∃m',m'<m/\W (i+1) m' σ2 H2) /\
   ∀x H2,J.yld i H' x H2->g x σ' H2 λσ3 H3=>ti σ3 H3 λok H4=>if ok=true then te σ3 H4 λv H5=>∃ys,H5 acc=some (.lst ys)/\ys.length<sizeLine/\NX σ3 (upd H5 acc (.lst (ys++[v]))) else NX σ3 H4)
theorem ZU {osc:Scope}{ON N:List Str}{scope:Scope}{own:Nat}{caps:List Nat}{cl:List (Str×Addr)}{C:Addr}{pins:List (Addr×Obj)}{σ:St}{H:Hp}{s:Shared}{fp:List Addr}
  (S:CompSc osc ON scope own N caps) (hsc:X.env.scope=osc) (hcl:∀x,cl.lookup x=if (x,aY)∈scope.names then X.env.cells.lookup x else none)
  (I:Inv X pins σ H s) (hC:s.heap.objs.size<=C) (hf:∀b∈fp,vN X pins H b) (hfs:∀b∈fp,b<s.heap.objs.size):(X.block scope cl C N s H fp).Ok:=by
 have fromX:∀x c,cl.lookup x=some c->X.env.cells.lookup x=some c/\(x,aY)∈scope.names:=λx c e=>by
  rw [hcl x] at e
  by_cases hm:(x,aY)∈scope.names
  ·rw [if_pos hm] at e;exact ⟨e,hm⟩
  ·rw [if_neg hm] at e;cases e
 refine ⟨I.ok.mod,S.kind,I.ok.glob,I.ok.blt,hC,λx y c h1 h2=>I.ok.inj x y c (fromX x c h1).1 (fromX y c h2).1,λx hx=>?_,λx c h1 h2=>?_,I.ok.hd,I.ok.frames,.inl rfl,λb hb=>?_,I.bs,aG I.ok.bsz I.sz,λb o e hb=>?_,λb hb hb2=>?_,I.stack,I.stkFree⟩
 ·-- has
  have key:∀k,(k=fh\/k=aY)->(relabel scope X.env).names.lookup x=some k->∃c,cl.lookup x=some c:=λk hk e=>by
   obtain ⟨k',e',d⟩:=zG (env:=X.env) e
   have hmem:=cC e'
   have hfree:k' = .free:=by
    rcases d with d | d
    ·subst d
     rcases hk with z | z
     ·exact absurd z (S.nocell _ hmem)
     ·exact z
    ·exact d.1
   subst hfree
   obtain ⟨_,hk2⟩:=S.fre _ hmem rfl
   obtain ⟨c,hc⟩:=I.ok.has x (by unfold o6;rw [hsc];exact hk2)
   exact ⟨c,by rw [hcl x,if_pos hmem];exact hc⟩
  rcases hx with z | z
  ·exact key _ (.inl rfl) z
  ·exact key _ (.inr rfl) z
 ·-- cab
  have h1':scope.names.lookup x=some .local:=of_decide_eq_true h1
  have hm:=(fromX x c h2).2
  have:=(S.fre _ hm rfl).1
  rw [h1'] at this
  cases this
 ·refine ⟨aB (aM (hfs b hb) hC),λx c e=>(hf b hb).2.2.2.2.1 x c (fromX x c e).1⟩
 ·rcases (hf b hb).2.2.2.1 with z | z
  ·exact I.ok.noex b o e z
  ·exact absurd (aM (ax e) (aG I.ok.bsz z)) (bX _)
 ·rcases List.mem_cons.mp (I.stkSub b hb2) with z | z
  ·exact (hf b hb).2.1 z
  ·exact (hf b hb).2.2.1 z
theorem uf {osc:Scope}{ON N:List Str}{scope:Scope}{own:Nat}{caps:List Nat}{cl:List (Str×Addr)}{C D:Addr}{pins:List (Addr×Obj)}{σ:St}{H:Hp}{s:Shared}{h1:Heap}{fp:List Addr}
  (S:CompSc osc ON scope own N caps) (hsc:X.env.scope=osc) (hN:X.N=ON) (hcl:∀x,cl.lookup x=if (x,aY)∈scope.names then X.env.cells.lookup x else none)
  (I:Inv X pins σ H s) (hf:∀b∈fp,vN X pins H b) (hfs:∀b∈fp,b<s.heap.objs.size) (hD:D=s.heap.objs.size) (hC:C=s.heap.objs.size+1)
  (k:∀b o,s.heap.get? b=some o->h1.get? b=some o) (eD:h1.get? D=some { cls:=.type "list",data:=.seq #[] }) (hn:h1.Ns C λ_=>none) (t':Nat) :
  Inv (X.block scope cl C N s H fp) [] (yB own caps σ) (upd H D (.lst [])) { s with heap:=h1,toks:=t' }:=by
 subst hD
 subst hC
 have hCs:s.heap.objs.size<=s.heap.objs.size+1:=dX _
 have ok:=ZU (C:=s.heap.objs.size+1) S hsc hcl I hCs hf hfs
 have fromX:∀x c,cl.lookup x=some c->X.env.cells.lookup x=some c/\(x,aY)∈scope.names:=λx c e=>by
  rw [hcl x] at e
  by_cases hm:(x,aY)∈scope.names
  ·rw [if_pos hm] at e;exact ⟨e,hm⟩
  ·rw [if_neg hm] at e;cases e
 have fr:∀a,s.heap.objs.size<=a->H a=none:=λa ha=>I.hok.fresh ha
 have newD:jY X.prog X.w (upd H s.heap.objs.size (.lst [])) h1 s.heap.objs.size (.lst []):=⟨aJ _,[],0,.nil,eD⟩
 have cellK:∀x c,X.env.cells.lookup x=some c->∀v,s.heap.IsCell c v->h1.IsCell c v:=λx c _ v ⟨o,ho,hd⟩=>⟨o,k c o ho,hd⟩
 refine ⟨ok,rfl,I.bare,Un.laid k (ao _) (fr _ (ao _)),⟨_,hn,λi x v e1 e2 e3=>?_⟩,λx c e=>?_,?_,λx c e=>?_,λp hp=>absurd (show p∈([]:List (Addr×Obj)) from hp) (by simp),I.hok.laid k (ao _) newD,?_⟩
 ·-- the captured names
  have e1':N[i]? = some x:=e1
  have hi:own<=i:=by
   by_cases hi:own<=i
   ·exact hi
   ·unfold yB at e2
    rw [cg (by simp;omega),il] at e2
    split at e2 <;> cases e2
  obtain ⟨j',rfl⟩:∃j',i=own+j':=⟨i-own,∅⟩
  have e2':(caps.map λj=>(σ[j]?).getD none)[j']? = some (some v):=by
   unfold yB at e2
   rw [bM (by simp)] at e2
   simpa using e2
  rw [ar] at e2'
  cases hj:caps[j']? with
  | none=>rw [hj] at e2';cases e2'
  | some j =>
   rw [hj] at e2'
   have e3':(σ[j]?).getD none=some v:=aR e2'
   have e4:σ[j]? = some (some v):=by
    cases q:σ[j]? with
    | none=>rw [q] at e3';cases e3'
    | some z=>rw [q] at e3';exact congrArg some e3'
   have hz:(x,j)∈(N.drop own).zip caps:=by
    refine au (i:=j') ?_
    rw [List.getElem?_zip_eq_some]
    exact ⟨by rw [lZ];exact e1',hj⟩
   obtain ⟨c1,c2⟩:=S.cap _ hz
   obtain ⟨_,hk⟩:=S.fre _ c2 rfl
   have hkX:X.env.kindOf x=some .cell\/X.env.kindOf x=some .free:=by unfold o6;rw [hsc];exact hk
   obtain ⟨m,hm,hl⟩:=I.loc
   obtain ⟨u,ru,l⟩:=hl j x v (by rw [hN];exact c1) e4 (by
    rcases hkX with z | z
    ·exact .inr (.inl z)
    ·exact .inr (.inr z))
   refine ⟨u,ru,?_⟩
   rcases l with ⟨l1,_⟩ | ⟨_,c,lc,lv⟩
   ·rcases hkX with z | z
    ·rw [z] at l1;cases l1
    ·rw [z] at l1;cases l1
   ·refine .inr ⟨?_,c,by show cl.lookup x=some c;rw [hcl x,if_pos c2];exact lc,cellK x c lc _ lv⟩
    rcases e3 with z | z
    ·obtain ⟨k',e',d⟩:=zG (env:=X.env) z
     have:=(S.fre _ c2 rfl).1
     rw [e'] at this
     cases this
     rcases d with d | d
     ·cases d
     ·cases d.2
    ·exact z
 ·obtain ⟨v,z⟩:=I.cell x c (fromX x c e).1
  exact ⟨v,cellK x c (fromX x c e).1 v z⟩
 ·show upd H s.heap.objs.size (.lst []) (s.heap.objs.size+1)=none
  rw [j5 (eF (fc _))]
  exact fr _ hCs
 ·have e':=(fromX x c e).1
  obtain ⟨v,z⟩:=I.cell x c e'
  rw [j5 (aB z.lt)]
  exact I.freeC x c e'
 ·unfold yB
  show _=N.length
  rw [av,l3,af,S.len]
structure BlockAt (X:Cx) (pins:List (Addr×Obj)) (H:Hp) (C:Addr):Prop where
 free:H C=none
 loc:C≠X.env.locals
 new:X.s₀.heap.objs.size<=C
 cell:∀x c,X.env.cells.lookup x=some c->c≠C
 pin:∀p∈X.pn++pins,p.1≠C
theorem BlockAt.gone {pins:List (Addr×Obj)}{σ:St}{H:Hp}{C:Addr}{s:Shared}{h':Heap}(B:BlockAt X pins H C) (I:Inv X pins σ H s) (hs:fH C s.heap h'):Inv X pins σ H { s with heap:=h' } :=
 I.turned (t':=s.toks) (λb o hb e=>(hs.2 b hb).trans e) B.free B.loc (.inr B.new) B.cell B.pin
theorem Ju {osc:Scope}{ON N:List Str}{scope:Scope}{own:Nat}{caps:List Nat}{cl:List (Str×Addr)}{tg elt iter:Expr}{ifs:List Expr}{g:TG}{ti:TT}{te:TE}{pins:List (Addr×Obj)}{σ:St}{H:Hp}{s:Shared}{fp:List Addr}{it:Addr}
  {tn:Nat->Heap->Prop} {J:It} {Q:VK} {RR:ae->Addr->lW->Shared->Prop} {E:ae->Shared->Prop}
  (hc:X.calm=true) (S:CompSc osc ON scope own N caps) (hsc:X.env.scope=osc) (hN:X.N=ON) (hcl:∀x,cl.lookup x=if (x,aY)∈scope.names then X.env.cells.lookup x else none)
  (hg:∀cl C s H ex,PG (X.block scope cl C N s H ex) tg g) (hif:∀cl C s H ex,gG (X.block scope cl C N s H ex) ifs ti) (he:∀cl C s H ex,PE (X.block scope cl C N s H ex) elt te)
  (I:Inv X pins σ H s) (T:Turn X.prog X.w X.K tg J fp it tn) (st:tn 0 s.heap) (hf:∀b∈fp,vN X pins H b)
  (hw:∀acc,H acc=none->∃W:Nat->Nat->St->Hp->Prop,(∃m,W 0 m (yB own caps σ) (upd H acc (.lst [])))/\∀i m σ' H',W i m σ' H' ->
   (J.stop i H'/\Q (.ref acc) H')\/(J.go i H'/\∃NX:St->Hp->Prop,(∀σ2 H2,NX σ2 H2->∃m',m'<m/\W (i+1) m' σ2 H2) /\
    ∀x H2,J.yld i H' x H2->g x σ' H2 λσ3 H3=>ti σ3 H3 λok H4=>if ok=true then te σ3 H4 λv H5=>∃ys,H5 acc=some (.lst ys)/\ys.length<sizeLine/\NX σ3 (upd H5 acc (.lst (ys++[v]))) else NX σ3 H4))
  (fin:∀(D C:Addr) (H':Hp) (s':Shared),Inv X pins σ H' s'->BlockAt X pins H' C->(∃m,s'.heap.Ns C m)->Q (.ref D) H'->RR (.ref D) C (.ok .next) s') :
  ay (aA X.prog X.w) X.A (nv []) (λacc s₃=>ay (aA X.prog X.w) X.A (o7 scope X.env.globals cl [] X.env.qual none .none (some X.env)) (λcenv s₄ =>
   cE (aA X.prog X.w) X.A (.compStart (.ListComp elt [⟨tg,iter,ifs,0⟩] scope pos) 0 (.ref it) acc { cenv with scope:=relabel scope X.env }) (RR acc cenv.locals) s₄) E s₃) E s:=by
 have hfs:∀b∈fp,b<s.heap.objs.size:=λb hb=>by
  obtain ⟨o,e,_⟩:=T.obj _ _ st b hb
  exact ax e
 refine cv (lr S.nocell (by intro y hy;simp at hy) (λh₁ hns₁ hsb₁=>?_) S.kind)
 dsimp only at hns₁ hsb₁ ⊢
 generalize hH2:s.heap.push { cls:=.type "list",dict:=none,data:=.seq ([]:List ae).toArray }=H2 at hns₁ hsb₁ ⊢
 have hCsz:H2.objs.size=s.heap.objs.size+1:=by rw [<- hH2,eJ]
 have old:∀b o,s.heap.get? b=some o->h₁.get? b=some o:=λb o e=>hsb₁.extBut b o (aB (by rw [hCsz];exact bW (ax e))) (aj _ (hH2 ▸ aj _ e))
 have eD:h₁.get? s.heap.objs.size=some { cls:=.type "list",data:=.seq #[] }:=hsb₁.extBut _ _ (aB ∅) (aj _ (hH2 ▸ aD _ rfl))
 have hDn:H s.heap.objs.size=none:=I.hok.fresh (ao _)
 obtain ⟨W,⟨m0,w0⟩,turn⟩:=hw s.heap.objs.size hDn
 have hns:h₁.Ns H2.objs.size λ_=>none:=hns₁
 have I1:Inv (X.block scope cl H2.objs.size N s H fp) [] (yB own caps σ) (upd H s.heap.objs.size (.lst [])) { s with heap:=h₁,toks:=s.toks+([]:List (Str×ae)).length } :=
  uf S hsc hN hcl I hf hfs rfl hCsz old eD hns _
 have st1:tn 0 h₁:=T.keep 0 _ _ st λb _ o e=>old b o e
 have fpB:∀{H':Hp},(∀b∈fp,H' b=none)->∀b∈fp,vN (X.block scope cl H2.objs.size N s H fp) [] H' b:=λ{H'} hn b hb=>by
  have ok:=I1.ok
  exact ⟨hn b hb,(ok.exf b hb).1,ok.exfs b hb,.inl hb,(ok.exf b hb).2,λp hp=>absurd (show p∈([]:List (Addr×Obj)) from hp) (by simp)⟩
 have back:∀{σ':St} {H':Hp} {s':Shared},Inv (X.block scope cl H2.objs.size N s H fp) [] σ' H' s'->Q (.ref s.heap.objs.size) H'->RR (.ref s.heap.objs.size) H2.objs.size (.ok .next) s':=λ{σ' H' s'} J1 q=>by
  have J2:Inv X pins σ H' s':=I.call' (ch:=fp) J1.os J1.base J1.hok J1.bare λb hb=>⟨(hf b hb).2.2.2.1,(hf b hb).2.1,(hf b hb).2.2.2.2.1,(hf b hb).2.2.2.2.2⟩
  obtain ⟨m,hm,_⟩:=J1.loc
  refine fin _ _ H' s' J2 ⟨J1.free,eF (aM I.lt ∅),aG I.sz ∅,λx c e z=>?_,λp hp z=>?_⟩ ⟨m,hm⟩ q
  ·obtain ⟨v,y⟩:=I.cell x c e
   have h1:H2.objs.size<s.heap.objs.size:=z ▸ y.lt
   exact absurd h1 ∅
  ·have h1:H2.objs.size<s.heap.objs.size:=z ▸ ax (I.pin p hp).1
   exact absurd h1 ∅
 have loop:∀s₃:Shared,s₃={ s with heap:=h₁,toks:=s.toks+([]:List (Str×ae)).length } ->
   cE (aA X.prog X.w) X.A (.compLoop (.ListComp elt [⟨tg,iter,ifs,0⟩] scope pos) 0 (.ref it) (.ref s.heap.objs.size) (nZ scope cl H2.objs.size X.env)) (RR (.ref s.heap.objs.size) H2.objs.size) s₃:=by
  rintro s₃ rfl
  refine J7 (λn s'=>∃i σ' H',Inv (X.block scope cl H2.objs.size N s H fp) [] σ' H' s'/\tn i s'.heap/\(∀b∈fp,H' b=none)/\W i n σ' H') ?_ m0
   ⟨0,_,_,I1,st1,λb hb=>by rw [j5 (aB (hfs b hb))];exact (hf b hb).1,w0⟩
  rintro n s3 ⟨i,σ3,H3,I3,st3,fr3,w3⟩
  rcases turn i n σ3 H3 w3 with ⟨stop,qn⟩ | ⟨go,NX,hNX,step⟩
  ·refine thn (T.done (X.block scope cl H2.objs.size N s H fp) rfl rfl rfl hc i [] s3 σ3 H3 _ I3 (fpB fr3) st3 stop) λr s4 ⟨hr,I4⟩=>?_
   subst hr
   exact back I4 qn
  ·refine thn (T.item (X.block scope cl H2.objs.size N s H fp) rfl rfl rfl hc i [] s3 σ3 H3 _ I3 (fpB fr3) st3 go) λr s4 ⟨u,hr,h4⟩=>?_
   subst hr
   refine thn h4 λ_ s5 ⟨x,H5,I5,r5,y5,st5,fr5⟩=>?_
   have I5':=I5.pinned (fpB fr5) (T.obj _ _ st5)
   refine thn (hg cl H2.objs.size s H fp _ s5 σ3 H5 x u _ I5' r5 (step x H5 y5)) λ_ s6 ⟨σ6,H6,I6,q6⟩=>?_
   refine thn (hif cl H2.objs.size s H fp _ s6 σ6 H6 _ I6 q6) λok s7 ⟨H7,I7,q7⟩=>?_
   have again:∀{s8:Shared} {σ8:St} {H8:Hp},Inv (X.block scope cl H2.objs.size N s H fp) ([]++xP fp s5.heap) σ8 H8 s8->NX σ8 H8->∃m,m<n/\∃i σ' H',Inv (X.block scope cl H2.objs.size N s H fp) [] σ' H' s8/\tn i s8.heap/\(∀b∈fp,H' b=none)/\W i m σ' H':=λ{s8 σ8 H8} I8 n8=>by
    obtain ⟨m',hm,w8⟩:=hNX σ8 H8 n8
    refine ⟨m',hm,i+1,σ8,H8,I8.unpinned,T.keep _ _ _ st5 λb hb o e=>(I8.pin (b,o) (aF _ (aF _ (qB hb e)))).1,λb hb=>?_,w8⟩
    obtain ⟨o,e,d⟩:=T.obj _ _ st5 b hb
    exact (I8.pin (b,o) (aF _ (aF _ (qB hb e)))).2.1
   cases ok with
   | false =>
    rw [if_neg aq] at q7 ⊢
    exact again I7 q7
   | true =>
    rw [if_pos rfl] at q7 ⊢
    refine thn (he cl H2.objs.size s H fp _ s7 σ6 H7 _ I7 q7) λv s8 ⟨y,H8,I8,r8,ys,e8,z8,q8⟩=>?_
    refine thn (qv _ s8 σ6 H8 (.ref s.heap.objs.size) [y] _ [v] (λ_ H9=>NX σ6 H9) I8 rfl (.cons r8 .nil) ⟨_,ys,y,rfl,rfl,e8,z8,q8⟩) λ_ s9 ⟨_,H9,I9,_,q9⟩=>?_
    exact again I9 q9
 exact iM (loop _ rfl) (T.self _ 0 _ _ _ st1 (loop _ rfl))
theorem JY {osc:Scope}{ON N:List Str}{scope:Scope}{own:Nat}{caps:List Nat}{pins:List (Addr×Obj)}{σ:St}{H:Hp}{s:Shared}(S:CompSc osc ON scope own N caps) (hsc:X.env.scope=osc) (I:Inv X pins σ H s) :
  ∀x∈scope.names,x.2 = .free->∃c,X.env.cells.lookup x.1=some c:=λx hx hk=>I.ok.has x.1 (by unfold o6;rw [hsc];exact (S.fre x hx hk).2)
theorem jX {osc:Scope}{ON N:List Str}{scope:Scope}{own:Nat}{caps:List Nat}{tg elt iter:Expr}{ifs:List Expr}{wi:TI}{g:TG}{ti:TT}{te:TE}(S:CompSc osc ON scope own N caps)
  (hc:X.calm=true) (hsc:X.env.scope=osc) (hN:X.N=ON) (hi:PI X tg iter wi)
  (hg:∀cl C s H ex,PG (X.block scope cl C N s H ex) tg g) (hif:∀cl C s H ex,gG (X.block scope cl C N s H ex) ifs ti) (he:∀cl C s H ex,PE (X.block scope cl C N s H ex) elt te)
  (hs:∀x,c3 iter X.env x=pure x:=by intro _;rfl):PE X (.ListComp elt [⟨tg,iter,ifs,0⟩] scope pos) (Vo own caps wi g ti te):=by
 intro pins s σ H Q I h
 obtain ⟨cl,hclos,hcl⟩:=yE (JY S hsc I)
 rw [oC]
 refine dO (use:=none) rfl hs hclos S.kind S.loc (thn (hi pins s σ H _ I h) λv s1 h1=>thn h1 λitv s2 h2=>?_)
 obtain ⟨it,fp,tn,J,H2,e,I2,T,st2,f2,hw⟩:=h2
 subst e
 refine Ju (RR:=λacc C=>oY (aA X.prog X.w) X.A X.xe none (EP X pins σ Q) acc C) hc S hsc hN hcl hg hif he I2 T st2 f2 hw λD C H' s' J1 B ⟨m,hm⟩ q=>?_
 exact ⟨m,hm,λh' hs'=>⟨.ref D,H',B.gone J1 hs',rfl,q⟩⟩
theorem Xp {osc:Scope}{ON N:List Str}{scope:Scope}{own:Nat}{caps:List Nat}{tg elt iter:Expr}{ifs:List Expr}{wi:TI}{g:TG}{ti:TT}{te:TE}{j:Nat}{y:Str}{py spos:Pos}(S:CompSc osc ON scope own N caps)
  (hnd:X.N.Nodup) (hj:X.N[j]? = some y) (hy:Loc X.env.scope y)
  (hc:X.calm=true) (hsc:X.env.scope=osc) (hN:X.N=ON) (hi:PI X tg iter wi)
  (hg:∀cl C s H ex,PG (X.block scope cl C N s H ex) tg g) (hif:∀cl C s H ex,gG (X.block scope cl C N s H ex) ifs ti) (he:∀cl C s H ex,PE (X.block scope cl C N s H ex) elt te)
  (hsw:fJ (.ListComp elt [⟨tg,iter,ifs,0⟩] scope pos) (some (.Name y py)) spos.line X.env=pure true:=by rfl)
  (hf:X.fn y=true\/X.env.scope.names.lookup y=some .local:=by first | exact .inl rfl | exact .inr rfl | assumption)
  (hs:∀x,c3 iter X.env x=pure x:=by intro _;rfl):PS X (.Assign [.Name y py] (.ListComp elt [⟨tg,iter,ifs,0⟩] scope pos) spos) (YW (Vo own caps wi g ti te) (wU j)):=by
 intro pins s σ H D0 I h
 obtain ⟨cl,hclos,hcl⟩:=yE (JY S hsc I)
 rw [exec_Assign_Name_used _ _ _ _ hsw]
 refine ah (cH (ah ?_))
 show ay _ X.A (do let _ <- comprehension (.ListComp elt [⟨tg,iter,ifs,0⟩] scope pos) scope X.env _ (nv []) false (eval iter X.env) (some (fz (.Name y py) X.env))) _ _ s
 refine ah (aV (dO (use:=some (fz (.Name y py) X.env)) (Q:=λ_ s'=>SP X pins D0 .next s') rfl hs hclos S.kind S.loc
  (thn (hi pins s σ H _ I h) λv s1 h1=>thn h1 λitv s2 h2=>?_)) (λ_ s' hq=>wpAny_pure (wpAny_pure hq)) λ_ _ e=>e)
 obtain ⟨it,fp,tn,J,H2,e,I2,T,st2,f2,hw⟩:=h2
 subst e
 refine Ju (Q:=λv H'=>D0.nx (σ.set j (some v)) H') (RR:=λacc C=>oY (aA X.prog X.w) X.A X.xe (some (fz (.Name y py) X.env)) (λ_ s'=>SP X pins D0 .next s') acc C) hc S hsc hN hcl hg hif he I2 T st2 f2 hw λD C H' s' J1 B ⟨m,hm⟩ q=>?_
 show ay _ X.A (fz (.Name y py) X.env (.ref D)) _ _ s'
 refine mf (kB (v:=V.ref D) J1 hnd hj hy rfl (λs2 J2 ⟨a,hsame,ha⟩=>?_) hf)
 have hCa:C≠a:=by
  rcases ha with z | z
  ·rw [z];exact B.loc
  ·exact λz2=>B.cell y a z z2.symm
 exact ⟨m,hm.sameBut hsame hCa,λh' hs'=>⟨_,H',B.gone J2 hs',q⟩⟩
end
theorem qg {K:ai}{a acc:Addr}{xs:List V}{g:TG}{ti:TT}{te:TE}{R:Hp->Prop}{σ:St}{H:Hp}(Pv:Nat->St->Hp->Prop) (h0:Pv 0 σ H) (hl:∀i σ H,i<=xs.length->Pv i σ H->SqL K H a xs)
  (hs:∀i x σ H,xs[i]? = some x->Pv i σ H->g x σ H λσ3 H3=>ti σ3 H3 λok H4=>if ok=true then te σ3 H4 λv H5=>∃ys,H5 acc=some (.lst ys)/\ys.length<sizeLine/\Pv (i+1) σ3 (upd H5 acc (.lst (ys++[v]))) else Pv (i+1) σ3 H4)
  (hd:∀σ H,Pv xs.length σ H->R H) :
  ∃W:Nat->Nat->St->Hp->Prop,(∃m,W 0 m σ H)/\∀i m σ' H',W i m σ' H' ->
   ((Itl K a).stop i H'/\R H')\/((Itl K a).go i H'/\∃NX:St->Hp->Prop,(∀σ2 H2,NX σ2 H2->∃m',m'<m/\W (i+1) m' σ2 H2) /\
    ∀x H2,(Itl K a).yld i H' x H2->g x σ' H2 λσ3 H3=>ti σ3 H3 λok H4=>if ok=true then te σ3 H4 λv H5=>∃ys,H5 acc=some (.lst ys)/\ys.length<sizeLine/\NX σ3 (upd H5 acc (.lst (ys++[v]))) else NX σ3 H4):=by
 refine ⟨λi m σ H=>m=xs.length-i/\i<=xs.length/\Pv i σ H,⟨xs.length,by simp,aJ _,h0⟩,?_⟩
 rintro i m σ H ⟨rfl,hi,p⟩
 have q:=hl i σ H hi p
 by_cases hlt:i<xs.length
 ·refine .inr ⟨⟨xs,xs[i],q,by simp [hlt]⟩,Pv (i+1),λσ' H' p'=>⟨xs.length-(i+1),∅,rfl,hlt,p'⟩,λx H' y=>?_⟩
  obtain ⟨e,y⟩:=y
  subst e
  exact hs i x σ _ (y xs q) p
 ·have e:i=xs.length:=∅
  subst e
  exact .inl ⟨⟨xs,q,ao _⟩,hd σ H p⟩
theorem JH {K:ai}{a acc:Addr}{xs:List V}{g:TG}{ti:TT}{te:TE}{R:Hp->Prop}{σ:St}{H:Hp}(Pv:Nat->St->Hp->Prop) (h0:Pv 0 σ H) (hl:∀i σ H,i<=xs.length->Pv i σ H->SqT K H a xs)
  (hs:∀i x σ H,xs[i]? = some x->Pv i σ H->g x σ H λσ3 H3=>ti σ3 H3 λok H4=>if ok=true then te σ3 H4 λv H5=>∃ys,H5 acc=some (.lst ys)/\ys.length<sizeLine/\Pv (i+1) σ3 (upd H5 acc (.lst (ys++[v]))) else Pv (i+1) σ3 H4)
  (hd:∀σ H,Pv xs.length σ H->R H) :
  ∃W:Nat->Nat->St->Hp->Prop,(∃m,W 0 m σ H)/\∀i m σ' H',W i m σ' H' ->
   ((Itt K a).stop i H'/\R H')\/((Itt K a).go i H'/\∃NX:St->Hp->Prop,(∀σ2 H2,NX σ2 H2->∃m',m'<m/\W (i+1) m' σ2 H2) /\
    ∀x H2,(Itt K a).yld i H' x H2->g x σ' H2 λσ3 H3=>ti σ3 H3 λok H4=>if ok=true then te σ3 H4 λv H5=>∃ys,H5 acc=some (.lst ys)/\ys.length<sizeLine/\NX σ3 (upd H5 acc (.lst (ys++[v]))) else NX σ3 H4):=by
 refine ⟨λi m σ H=>m=xs.length-i/\i<=xs.length/\Pv i σ H,⟨xs.length,by simp,aJ _,h0⟩,?_⟩
 rintro i m σ H ⟨rfl,hi,p⟩
 have q:=hl i σ H hi p
 by_cases hlt:i<xs.length
 ·refine .inr ⟨⟨xs,xs[i],q,by simp [hlt]⟩,Pv (i+1),λσ' H' p'=>⟨xs.length-(i+1),∅,rfl,hlt,p'⟩,λx H' y=>?_⟩
  obtain ⟨e,y⟩:=y
  subst e
  exact hs i x σ _ (y xs q) p
 ·have e:i=xs.length:=∅
  subst e
  exact .inl ⟨⟨xs,q,ao _⟩,hd σ H p⟩
theorem xq {lo:Int}{n:Nat}{acc:Addr}{g:TG}{ti:TT}{te:TE}{R:Hp->Prop}{σ:St}{H:Hp}(Pv:Nat->St->Hp->Prop) (h0:Pv 0 σ H)
  (hs:∀i σ H,i<n->Pv i σ H->g (.int (lo+i)) σ H λσ3 H3=>ti σ3 H3 λok H4=>if ok=true then te σ3 H4 λv H5=>∃ys,H5 acc=some (.lst ys)/\ys.length<sizeLine/\Pv (i+1) σ3 (upd H5 acc (.lst (ys++[v]))) else Pv (i+1) σ3 H4)
  (hd:∀σ H,Pv n σ H->R H) :
  ∃W:Nat->Nat->St->Hp->Prop,(∃m,W 0 m σ H)/\∀i m σ' H',W i m σ' H' ->
   ((Itr lo n).stop i H'/\R H')\/((Itr lo n).go i H'/\∃NX:St->Hp->Prop,(∀σ2 H2,NX σ2 H2->∃m',m'<m/\W (i+1) m' σ2 H2) /\
    ∀x H2,(Itr lo n).yld i H' x H2->g x σ' H2 λσ3 H3=>ti σ3 H3 λok H4=>if ok=true then te σ3 H4 λv H5=>∃ys,H5 acc=some (.lst ys)/\ys.length<sizeLine/\NX σ3 (upd H5 acc (.lst (ys++[v]))) else NX σ3 H4):=by
 refine ⟨λi m σ H=>m=n-i/\i<=n/\Pv i σ H,⟨n,by simp,aJ _,h0⟩,?_⟩
 rintro i m σ H ⟨rfl,hi,p⟩
 by_cases hlt:i<n
 ·refine .inr ⟨hlt,Pv (i+1),λσ' H' p'=>⟨n-(i+1),∅,rfl,hlt,p'⟩,λx H' y=>?_⟩
  obtain ⟨e,y⟩:=y
  subst e y
  exact hs i σ _ hlt p
 ·have e:i=n:=∅
  subst e
  exact .inl ⟨ao _,hd σ H p⟩
end L2
end
section
namespace L2
structure Cal (P:Program) (w:aX) (K:ai) (mg:Str->Option ae) (base:Heap) (k:Nat) (x:Str) (ps:List Str) (sp:Sp):Prop where
 ex:∃f fd,FnOk P w K mg base CX0 k f fd ps sp/\zP K fd ps []/\mg x=some (.ref f)/\bD K (.ref f)=true
theorem jd {X:Cx}{k:Nat}{x:Str}{ps:List Str}{sp:Sp}{e:Expr}{es:List Expr}{t:TA}{p pos:Pos}(c:Cal X.prog X.w X.K X.mg X.base k x ps sp) (hr:Room k X.A) (hg:Gl X x) (ha:PA X (e::es) t)
  (hdb:(x == ("__debug__" : Str))=false:=by decide) (he:aK (e::es) X.env=(false,eval e X.env)::aK es X.env:=by rfl) (hpl:(ck pos (aK es X.env)).any (·.1)=false:=by rfl) :
  PE X (.Call (.Name x p) (e::es) [] pos) (Vk sp [] E0 t):=by
 obtain ⟨f,fd,F,hb,hm,hk⟩:=c.ex
 exact Yv F hr hg hm hk hb .nil Vp ha hdb he hpl
theorem Cal.mk' {P:Program}{w:aX}{K:ai}{mg:Str->Option ae}{base:Heap}{k:Nat}{x:Str}{ps:List Str}{sp:Sp}{st:Stmt}{h:Heap}{f:Addr}{oc:ae}{od an:Option Addr}{osl:Array (Option ae)}{kV doc pm cdv ct:ae}
  (X:K.In h) (G:h.Ns mainGlobals mg) (a:aN K mainGlobals x=some (some (.ref f)))
  (l:K.lookup f=some ⟨oc,od,.func (bw x x (jP st) (jH st) (j8 st) .none kV doc pm an cdv ct),osl⟩) (c:c6 K cdv x=true) (k':bD K (.ref f)=true)
  (hb:∀(kV doc pm:ae) (an:Option Addr) (cdv ct:ae) (us:List ae),us.length=ps.length->c5 (bw x x (jP st) (jH st) (j8 st) .none kV doc pm an cdv ct) ⟨us,[]⟩=pure (ps.zip us))
  (ok:∀{f:Addr} {fd:FuncData},Fun K x x st f fd->FnOk P w K mg base CX0 k f fd ps sp):Cal P w K mg base k x ps sp:=by
 have F:=yG (st:=st) l c k'
 exact ⟨f,_,ok F,F.binds hb,bf X G a,k'⟩
section
variable {X:Cx}
theorem Jx:qA X (.builtin "isinstance") (λxs H Q=>∃x n t b,xs=[x,.ty n]/\TyOf X.K H x t/\eK X.K t (.type n)=some b/\Q (.bl b) H):=by
 intro pins s σ H xs us Q I r h
 obtain ⟨x,n,t,b,rfl,ty,e,q⟩:=h
 obtain ⟨u,w',rfl,r1,r2⟩:=Zr r
 cases (show w'=fb n from r2)
 exact Zj I r1 ty e λtk=>⟨.bl b,H,I.tok tk,rfl,q⟩
def Vi (i j:Int):Prop:=0<j/\j<2 ^ 200
theorem ve:OpR X (fk .FloorDiv) (rI Vi λi j=>.int (i / j)):=opI λi j _ _ _ _ _ hc q=>by
 have h1:(0:Int)<j:=hc.1
 have h2:j<2 ^ 200:=hc.2
 refine floordiv_int ∅ (by rw [Int.fdiv_eq_ediv_of_nonneg i ∅];exact q) (.inl (PyProof.noPylong_of_log2 ?_))
 have h3:j.natAbs<2 ^ 200:=∅
 have h4:j.natAbs≠0:=∅
 have:=(Nat.log2_lt h4).mpr h3
 omega
theorem ZN (hc:X.calm=true):qA X (.builtin "all") (λxs H Q=>∃(p:Addr) (bs:List Bool),xs=[.ref p]/\SqL X.K H p (bs.map V.bl)/\Q (.bl (bs.all λb=>b)) H):=by
 intro pins s σ H xs us Q I r h
 obtain ⟨p,bs,rfl,hq,q⟩:=h
 obtain ⟨u,rfl,ru⟩:=zt r
 cases ru
 obtain ⟨its,rv,pl,hz⟩:=I.list hq
 have hne:p≠s.heap.objs.size:=by
  obtain ⟨o,n,e,_⟩:=id pl
  exact aB (ax e)
 have hlen:its.length=bs.length:=by rw [<- rv.length,af]
 have itsAt:∀i v,its[i]? = some v->∃b,bs[i]? = some b/\v=iC b:=λi v e=>by
  have hi:i<its.length:=(List.getElem?_eq_some_iff.mp e).1
  have hb:(bs.map V.bl)[i]? = some (V.bl (bs[i]'∅)):=by rw [ar,aa ∅];rfl
  obtain ⟨u,h1,h2⟩:=rv.get hb
  rw [e] at h1
  cases h1
  exact ⟨bs[i]'∅,aa ∅,h2⟩
 refine call_all_walk (eG pl.isList ?_)
 refine ⟨s.heap.objs.size,_,_,_,_,_,λi=>bs.getD i true,rfl,Walks.list (show (X.A.in1).handled=none from I.ok.hd hc) s.heap.objs.size p hne its.toArray,⟨⟨_,aD _ rfl,rfl,rfl⟩,pl.isList.at λo e=>aj _ e⟩,?_,?_⟩
 ·intro i v s' Q' E' hP hQ
  obtain ⟨b,hb,rfl⟩:=itsAt i v (by simpa using hP)
  have e:bs.getD i true=b:=by rw [ak,hb];rfl
  have hQ:Q' (bs.getD i true) s':=hQ
  rw [e] at hQ
  exact bU hQ
 ·intro h' tk hk
  have e:((aO its.toArray.size).all λi=>bs.getD i true)=bs.all λb=>b:=by
   rw [aw,hlen,di,bG,bG]
   constructor
   ·intro z b hb
    obtain ⟨i,hi,rfl⟩:=List.mem_iff_getElem.mp hb
    have:=z i (List.mem_range.mpr hi)
    rw [ak,aa hi] at this
    exact this
   ·intro z i hi
    have hi':=List.mem_range.mp hi
    rw [ak,aa hi']
    exact z _ (bH hi')
  rw [e]
  refine ⟨.bl _,H,I.kept (t':=tk) λb o eo=>hk b o (by
   intro z
   have:=List.mem_singleton.mp z
   subst this
   exact absurd (ax eo) (bX _)) (aj _ eo),rfl,q⟩
end
def kitT (a b:String):Option Bool:=if (fb a == fb b)=true then some true else if PySem.W.kitMeta b=true then (fastBuiltinMro a).map (·.contains (.type b)) else none
theorem ZY (K:ai) (a b:String):eK K (.type a) (.type b)=kitT a b:=rfl
theorem yb (K:ai):eK K (.type "tuple") (.type "tuple")=some true:=(ZY K _ _).trans (by decide +kernel)
def Ext (b:Addr) (H H':Hp):Prop:=∀c o,H c=some o->c≠b->H' c=some o
theorem Ext.refl {b:Addr}{H:Hp}:Ext b H H:=λ_ _ h _=>h
theorem Ext.trans {b:Addr}{H H1 H2:Hp}(x:Ext b H H1) (y:Ext b H1 H2):Ext b H H2:=λc o h n=>y c o (x c o h n) n
theorem Ext.of_same {b:Addr}{H H':Hp}(x:jn H H'):Ext b H H':=λc o h _=>x c o h
theorem Ext.put {b:Addr}{H:Hp}{o:HO}:Ext b H (upd H b o):=λc _ h n=>by rw [j5 n];exact h
theorem jn.new {H:Hp}{p:Addr}{o:HO}(n:H p=none):jn H (upd H p o):=λc u h=>by rw [j5 (j1 h n)];exact h
theorem Ext.new {b:Addr}{H:Hp}{p:Addr}{o:HO}(n:H p=none):Ext b H (upd H p o):=Ext.of_same (jn.new n)
theorem Ext.free {b:Addr}{H H':Hp}(x:Ext b H H') {p:Addr}(h:H' p=none) (n:p≠b):H p=none:=by
 cases q:H p with
 | none=>rfl
 | some o=>rw [x p o q n] at h;cases h
end L2
end
section
namespace L2
section
variable {X:Cx}
theorem jb (K:ai) (h:X.K=K:=by rfl):IxR X (Ue K):=by subst h;exact YE
theorem qo (K:ai) (h:X.K=K:=by rfl):IxR X (Vs K):=by subst h;exact VT
theorem jf (K:ai) (h:X.K=K:=by rfl):qA X (.builtin "len") (λxs H Q=>∃p ys,xs=[.ref p]/\(SqL K H p ys\/SqT K H p ys)/\Q (.int ys.length) H):=by subst h;exact kS
theorem Qp (K:ai) (h:X.K=K:=by rfl):OpR X (bQ .In) (rIn K false):=by subst h;exact XC
theorem zi (K:ai) (h:X.K=K:=by rfl):OpR X (bQ .NotIn) (rIn K true):=by subst h;exact kX
theorem vz (K:ai) (h:X.K=K:=by rfl):qA X (.builtin "isinstance") (λxs H Q=>∃x n t b,xs=[x,.ty n]/\TyOf K H x t/\eK K t (.type n)=some b/\Q (.bl b) H):=by subst h;exact Jx
theorem yf (K:ai) (hc:X.calm=true) (h:X.K=K:=by rfl):qA X (.builtin "all") (λxs H Q=>∃(p:Addr) (bs:List Bool),xs=[.ref p]/\SqL K H p (bs.map V.bl)/\Q (.bl (bs.all λb=>b)) H):=by subst h;exact ZN hc
theorem jW {tg l:Expr}{tl:TE}(K:ai) (hl:PE X l tl) (h:X.K=K:=by rfl):PI X tg l (Vq K tl):=by subst h;exact Ys hl
theorem vi {tg l:Expr}{tl:TE}(K:ai) (hl:PE X l tl) (h:X.K=K:=by rfl):PI X tg l (UV K tl):=by subst h;exact Ug hl
theorem qI {es:List Expr}{k:Nat}{t:TGs}{n:Nat}{pos:Pos}(K:ai) (hc:X.calm=true) (h:PGs X es t)
  (hn:(dR es X.env).length=n:=by rfl) (hst:(dR es X.env).findIdx? (·.1)=none:=by rfl) (hK:X.K=K:=by rfl):PG X (.Tuple es k pos) (UJ K n t):=by subst hK;exact VF hc h hn hst
theorem zW {T id:String}{name:Str}{r:V->List V->Hp->VK->Prop}{o e:Expr}{es:List Expr}{to:TE}{t:TA}{apos cpos:Pos}(K:ai) (pa:PlainAttrs T) (slot:Slot T name id) (hty:oM (.builtin id)=pure (.type "method_descriptor")) (hm:MtR X id r) (ho:PE X o to) (ha:PA X (e::es) t)
  (hbase:dJ o name X.env (eval o X.env)=eval o X.env:=by rfl)
  (hfew:((ck cpos (aK (e::es) X.env)).all (λx=>!x.1) && (fN cpos (dz [] X.env)).all (λx=>x.1.isSome)
   && decide ((e::es).length+([]:List iH).length+(if ([]:List iH).isEmpty then 0 else 1)<30))=true:=by rfl)
  (hline:(apos.endLine == cpos.line)=true:=by rfl) (hs:aK (e::es) X.env=(false,eval e X.env)::aK es X.env:=by rfl) (hplain:(ck cpos (aK es X.env)).any (·.1)=false:=by rfl) (hK:X.K=K:=by rfl) :
  PE X (.Call (.Attribute o name apos) (e::es) [] cpos) (tBM K T r to t):=by subst hK;exact UQ pa slot hty hm ho ha hbase hfew hline hs hplain
end
def New (H:Hp) (o:HO) (Q:VK):Prop:=∀p H',H p=none->H' p=some o->jn H H'->Q (.ref p) H'
theorem New.at {H:Hp}{o:HO}{Q:VK}(h:New H o Q):∀p,H p=none->Q (.ref p) (upd H p o):=λp n=>h p _ n j7 (jn.new n)
section
variable {X:Cx}{es:List Expr}{t:TA}{pos:Pos}
def Uu (t:TA):TE:=λσ H Q=>t σ H λxs H1=>xs.length<=sizeLine/\New H1 (.tup xs) Q
def UG (t:TA):TE:=λσ H Q=>t σ H λxs H1=>xs.length<=sizeLine/\New H1 (.lst xs) Q
theorem qZ {x1}(h:PA X es t):PE X (.Tuple es x1 pos) (Uu t):=by
 intro pins s σ H Q I hq
 refine wpAny_Tuple_spliced (thn (h pos pins s σ H _ I hq) λus s1 ⟨xs,H1,I1,r,z,q⟩=>⟨by rw [<- r.length];exact z,?_⟩)
 have hf:H1 s1.heap.objs.size=none:=I1.hok.fresh (ao _)
 refine ⟨.ref s1.heap.objs.size,upd H1 s1.heap.objs.size (.tup xs),I1.laid (t':=s1.toks) (λb u e=>aj _ e) (ao _) ?_,rfl,q.at _ hf⟩
 exact ⟨z,us,r,⟨_,aD _ rfl,rfl,_,rfl⟩⟩
theorem jM (h:PA X es t):PE X (.List es pos) (UG t):=by
 intro pins s σ H Q I hq
 refine wpAny_List_spliced (thn (h pos pins s σ H _ I hq) λus s1 ⟨xs,H1,I1,r,z,q⟩=>⟨by rw [<- r.length];exact z,?_⟩)
 have hf:H1 s1.heap.objs.size=none:=I1.hok.fresh (ao _)
 refine ⟨.ref s1.heap.objs.size,upd H1 s1.heap.objs.size (.lst xs),I1.laid (t':=s1.toks) (λb u e=>aj _ e) (ao _) ?_,rfl,q.at _ hf⟩
 exact ⟨z,us,0,r,aD _ rfl⟩
theorem OpR.weak {f:ae->ae->Sem ae}{r r':R2}(h:OpR X f r) (w:∀x y H Q,r' x y H Q->r x y H Q):OpR X f r':=λpins s σ H x y v u Q I rx ry q=>h pins s σ H x y v u Q I rx ry (w _ _ _ _ q)
theorem qA.weak {f:ae}{r r':List V->Hp->VK->Prop}(h:qA X f r) (w:∀x H Q,r' x H Q->r x H Q):qA X f r':=λpins s σ H xs us Q I rx q=>h pins s σ H xs us Q I rx (w _ _ _ q)
theorem SlR.weak {r r':V->Option Int->Option Int->Hp->VK->Prop}(h:SlR X r) (w:∀x lo hi H Q,r' x lo hi H Q->r x lo hi H Q):SlR X r':=λpins s σ H x v vl vu lo hi sl Q I rx hs pl pu q=>h pins s σ H x v vl vu lo hi sl Q I rx hs pl pu (w _ _ _ _ _ q)
def Wa:R2:=λx y H Q=>∃l b xs zs,x = .ref l/\y = .ref b/\H l=some (.lst xs)/\H b=some (.lst zs)/\xs.length+zs.length<=sizeLine/\New H (.lst (xs++zs)) Q
theorem Va:OpR X (fk .Add) Wa:=Um.weak λ_ _ _ _ ⟨l,b,xs,zs,h1,h2,h3,h4,h5,q⟩=>⟨l,b,xs,zs,h1,h2,h3,h4,h5,q.at⟩
theorem qp (K:ai) (h:X.K=K:=by rfl):qA X (.type "list") (λxs H Q=>∃p ys,xs=[.ref p]/\(SqL K H p ys\/SqT K H p ys)/\New H (.lst ys) Q):=by
 subst h
 exact gg.weak λ_ _ _ ⟨p,ys,h1,h2,q⟩=>⟨p,ys,h1,h2,q.at⟩
theorem wV (K:ai) (h:X.K=K:=by rfl):SlR X (λx lo hi H Q=>∃a xs,x = .ref a/\SqL K H a xs/\New H (.lst (gA xs lo hi)) Q):=by
 subst h
 exact YU.weak λ_ _ _ _ _ ⟨a,xs,h1,h2,q⟩=>⟨a,xs,h1,h2,q.at⟩
end
theorem qS {p A B:Prop} [Decidable p] (h1:p->A) (h2:¬p->B):if decide p=true then A else B:=by
 by_cases h:p
 ·rw [if_pos (decide_eq_true h)];exact h1 h
 ·rw [if_neg (by rw [decide_eq_false h];exact aq)];exact h2 h
theorem zy {p A B:Prop} [Decidable p] (h1:¬p->A) (h2:p->B):if (!decide p)=true then A else B:=by
 by_cases h:p
 ·rw [if_neg (by rw [decide_eq_true h];exact aq)];exact h2 h
 ·rw [if_pos (by rw [decide_eq_false h];rfl)];exact h1 h
theorem qx {α:Type}{xs:List α}{i:Int}{v:α}(h0:0<=i) (h:xs[i.toNat]? = some v):atI xs i=some v:=by
 obtain ⟨n,rfl⟩:=Int.eq_ofNat_of_zero_le h0
 exact xW (by simpa using h)
theorem uR {ns:List Int}{i:Int}(h0:0<=i) (h:i<ns.length):∃z,atI (ns.map V.int) i=some (.int z):=by
 refine ⟨ns[i.toNat]'∅,qx h0 ?_⟩
 rw [ar,aa ∅]
 rfl
theorem zY {ns:List Int}{i:Nat}{y:V}(h:(ns.map V.int)[i]? = some y):∃z,y=V.int z:=by
 rw [ar] at h
 cases e:ns[i]? with
 | none=>rw [e] at h;cases h
 | some z=>rw [e] at h;exact ⟨z,(aR h).symm⟩
def QP:Sp:=λvs H Q _=>∃a b:Int,vs=[.int a,.int b]/\∀r:Int,Q (.int r) H
structure Nb (mg:Str->Option ae):Prop where
 b_len:mg "len" = none
 b_range:mg "range" = none
 b_isinstance:mg "isinstance" = none
 b_int:mg "int" = none
 b_bool:mg "bool" = none
 b_str:mg "str" = none
 b_list:mg "list" = none
 b_tuple:mg "tuple" = none
 b_min:mg "min" = none
 b_max:mg "max" = none
 b_all:mg "all" = none
 b_zip:mg "zip" = none
end L2
end
section
namespace L2
mutual
inductive Rep (M:Addr->Prop) (K:ai) (H:Hp):V->du->Prop
 | non:Rep M K H .non .none
 | bl (b:Bool):Rep M K H (.bl b) (.bool b)
 | int (i:Int):Rep M K H (.int i) (.int i)
 | str (x:Str):Rep M K H (.str x) (.str x)
 | tup {p:Addr} {vs:List V} {ds:List du}:¬M p->SqT K H p vs->RepL M K H vs ds->Rep M K H (.ref p) (.tuple ds)
 | lst {p:Addr} {vs:List V} {ds:List du}:¬M p->SqL K H p vs->RepL M K H vs ds->Rep M K H (.ref p) (.list ds)
inductive RepL (M:Addr->Prop) (K:ai) (H:Hp):List V->List du->Prop
 | nil:RepL M K H [] []
 | cons {v:V} {vs:List V} {d:du} {ds:List du}:Rep M K H v d->RepL M K H vs ds->RepL M K H (v::vs) (d::ds)
end
def UC (M:Addr->Prop) (H H':Hp):Prop:=∀c o,H c=some o->¬M c->H' c=some o
theorem Rep.reads_all {X:Cx}{pins:List (Addr×Obj)}{σ:St}{H:Hp}{s:Shared}{M:Addr->Prop}(I:Inv X pins σ H s) {vs:List V}{ds:List du}(h:RepL M X.K H vs ds) :
  ∀{us:List ae},jz vs us->∃as,ReadsAll s.heap us ds as:=by
 refine RepL.rec (M:=M) (K:=X.K) (H:=H) (motive_1:=λv d _=>∀u,jA v u->∃as,Reads s.heap u d as) (motive_2:=λvs ds _=>∀{us:List ae},jz vs us->∃as,ReadsAll s.heap us ds as)
  ?_ ?_ ?_ ?_ ?_ ?_ ?_ ?_ h
 ·intro u r;cases r;exact ⟨_,Reads.none⟩
 ·intro b u r;cases r;exact ⟨_,Reads.bool b⟩
 ·intro i u r;obtain ⟨t,rfl⟩:=r;exact ⟨_,Reads.int i t⟩
 ·intro x u r;obtain ⟨t,rfl⟩:=r;exact ⟨_,Reads.str x t⟩
 ·intro p vs ds n hq _ ih u r
  cases r
  obtain ⟨its,rv,⟨o,e,c,k,d⟩,_⟩:=I.tuple hq
  obtain ⟨as,q⟩:=ih rv
  exact ⟨as,reads_tuple_at e c d (by simpa using q)⟩
 ·intro p vs ds n hq _ ih u r
  cases r
  obtain ⟨its,rv,⟨o,k,e,c,_,d⟩,_⟩:=I.list hq
  obtain ⟨as,q⟩:=ih rv
  exact ⟨_,reads_list_at e c d (by simpa using q)⟩
 ·intro us r;cases r;exact ⟨_,ReadsAll.nil⟩
 ·intro v vs d ds _ _ ih1 ih2 us r
  cases r with
  | cons r1 r2 =>
   obtain ⟨as,q⟩:=ih1 _ r1
   obtain ⟨bs,q2⟩:=ih2 r2
   exact ⟨_,ReadsAll.cons q q2⟩
theorem Rep.reads {X:Cx}{pins:List (Addr×Obj)}{σ:St}{H:Hp}{s:Shared}{M:Addr->Prop}(I:Inv X pins σ H s) {v:V}{d:du}{u:ae}(h:Rep M X.K H v d) (r:jA v u):∃as,Reads s.heap u d as:=by
 obtain ⟨as,q⟩:=Rep.reads_all I (RepL.cons h .nil) (Paired.cons r .nil)
 cases q with
 | cons q1 q2=>exact ⟨_,q1⟩
section
variable {X:Cx}
def Uq (K:ai):R2:=λx y H Q=>∃(M M':Addr->Prop) (d e:du),Rep M K H x d/\Rep M' K H y e/\iN d=true/\iN e=true/\Q (.bl (!PyData.eqv d e)) H
theorem U6 (hu:X.A.units+64<cLine):OpR X (bQ .NotEq) (Uq X.K):=by
 intro pins s σ H x y v u Q I rx ry h
 obtain ⟨M,M',d,e,h1,h2,s1,s2,q⟩:=h
 obtain ⟨as,r1⟩:=h1.reads I rx
 obtain ⟨bs,r2⟩:=h2.reads I ry
 exact ne_dataH r1 r2 s1 s2 hu ⟨.bl _,H,I,rfl,q⟩
end
end L2
end
section
namespace L2
def tCut (t u:TS):TS:=λD σ H=>∃P:St->Hp->Prop,t { D with nx:=P } σ H/\∀σ' H',P σ' H'->u D σ' H'
theorem vB {X:Cx}{st:Stmt}{zw:List Stmt}{t u:TS}(h1:PS X st t) (h2:PSs X zw u):PSs X (st::zw) (tCut t u):=by
 intro pins s σ H D I h
 obtain ⟨P,h,hP⟩:=h
 refine ig (thn (h1 pins s σ H { D with nx:=P } I h) λf s1 q=>?_)
 cases f with
 | next =>
  obtain ⟨σ',H',I',q⟩:=q
  exact h2 pins s1 σ' H' D I' (hP _ _ q)
 | ret v=>exact q
 | brk=>exact q
 | cont=>exact q
section
variable {X:Cx}
end
theorem YR {X:Cx}(K:ai) (hu:X.A.units+64<cLine) (h:X.K=K:=by rfl):OpR X (bQ .NotEq) (Uq K):=by subst h;exact U6 hu
theorem Ur {c:Bool}{A B:Prop}(h:c=true) (k:B):if (!c)=true then A else B:=by
 subst h
 exact VD k
def jR (L:Addr) (H:Hp) (b:Addr):Prop:=∃(ns:List Int) (a r c d:Int),H b=some (.lst [.ref L,.int a,.int r,.int c,.int d])/\L≠b/\H L=some (.lst (ns.map V.int))/\0<=a
theorem jR.same {L:Addr}{H H':Hp}{b:Addr}(B:jR L H b) (s:jn H H'):jR L H' b:=by
 obtain ⟨ns,a,r,c,d,h1,h2,h3,h4⟩:=B
 exact ⟨ns,a,r,c,d,s _ _ h1,h2,s _ _ h3,h4⟩
theorem jR.ext {L:Addr}{H H':Hp}{b acc:Addr}(B:jR L H b) (n:acc≠b) (m:acc≠L) (e:Ext acc H H'):jR L H' b:=by
 obtain ⟨ns,a,r,c,d,h1,h2,h3,h4⟩:=B
 exact ⟨ns,a,r,c,d,e _ _ h1 n.symm,h2,e _ _ h3 m.symm,h4⟩
theorem jR.put {L:Addr}{H:Hp}{b acc:Addr}{o:HO}(B:jR L H b) (n:acc≠b) (m:acc≠L):jR L (upd H acc o) b:=B.ext n m Ext.put
theorem jR.ne {L:Addr}{H:Hp}{b p:Addr}(B:jR L H b) (n:H p=none):p≠b:=by
 obtain ⟨ns,a,r,c,d,h1,h2,h3,h4⟩:=B
 exact (j1 h1 n).symm
theorem jR.neL {L:Addr}{H:Hp}{b p:Addr}(B:jR L H b) (n:H p=none):p≠L:=by
 obtain ⟨ns,a,r,c,d,h1,h2,h3,h4⟩:=B
 exact (j1 h3 n).symm
theorem jR.ne_tup {L:Addr}{H:Hp}{b p:Addr}{xs:List V}(B:jR L H b) (n:H p=some (.tup xs)):p≠b:=by
 obtain ⟨ns,a,r,c,d,h1,h2,h3,h4⟩:=B
 exact jh n h1 (by intro z;cases z)
def xb:Sp:=λvs H Q _=>∃(L b:Addr) (n:Int),vs=[.ref b,.int n]/\jR L H b/\(0<n/\n<2 ^ 200)/\∀(v:Int) (H':Hp),0<=v->v<n->jR L H' b->Ext b H H'->Q (.int v) H'
def ZR (K:ai):Sp:=λvs H Q _=>∃(a:Addr) (ns:List Int),vs=[.ref a]/\SqL K H a (ns.map V.int)/\∀(L b:Addr) (H':Hp),H b=none->jR L H' b->jn H H'->Q (.ref b) H'
abbrev T3:=Int×Int×Int
abbrev zj (t:T3):HO:=.tup [.int t.1,.int t.2.1,.int t.2.2]
def U0 (H:Hp) (v:V) (t:T3):Prop:=∃p,v = .ref p/\H p=some (zj t)
def qh (H:Hp) (vs:List V) (ts:List T3):Prop:=cf (U0 H) vs ts
theorem qh.length {H:Hp}{vs:List V}{ts:List T3}(r:qh H vs ts):vs.length=ts.length:=aP r
theorem qh.get {H:Hp}:∀{vs:List V}{ts:List T3}{i:Nat}{v:V},qh H vs ts->vs[i]? = some v->∃t,ts[i]? = some t/\U0 H v t
 | _,_,_,_,.nil,e=>by simp at e
 | _,_,0,_,.cons r _,e=>by simp at e;subst e;exact ⟨_,rfl,r⟩
 | _,_,i+1,v,.cons _ t,e=>by
  obtain ⟨d,h1,h2⟩:=qh.get (i:=i) (v:=v) t (by simpa using e)
  exact ⟨d,by simpa using h1,h2⟩
theorem qh.imp {H H':Hp}{vs:List V}{ts:List T3}(r:qh H vs ts) (h:∀p t,H p=some (zj t)->H' p=some (zj t)):qh H' vs ts :=
 Paired.mapP r λ_ t ⟨p,e,q⟩=>⟨p,e,h p t q⟩
theorem qh.snoc {H:Hp}{vs:List V}{ts:List T3}{v:V}{t:T3}(r:qh H vs ts) (h:U0 H v t):qh H (vs++[v]) (ts++[t]):=cu r h
theorem qr {α β:Type}(f:α->β) (l:List α) (i:Nat) (v:α) (h:l[i]? = some v):(l.take (i+1)).map f=(l.take i).map f++[f v]:=by
 rw [c8,h,aE]
 rfl
end L2
end
section
namespace L2
open PySem PySem.W PyProof.Rows
def qO {α:Type}(lt:Nat->Nat->Bool) (n:Nat):KasT α->(α->Prop)->Prop
 | .ret a,G=>G a
 | .ask i j k,G=>i<n/\j<n/\qO lt n (k (lt i j)) G
theorem qO.bind {α β:Type}{lt:Nat->Nat->Bool}{n:Nat}{f:α->KasT β}{G:β->Prop}:∀{t:KasT α},qO lt n t (λa=>qO lt n (f a) G)->qO lt n (t.bind f) G
 | .ret _,h=>h
 | .ask _ _ k,h=>⟨h.1,h.2.1,qO.bind (t:=k _) h.2.2⟩
theorem qO.wp {α:Type}{lt:Nat->Nat->Bool}{n:Nat}{cmp:Nat->Nat->(Bool->Shared->Prop)->Shared->Prop}{I:Shared->Prop}(hc:∀i j C s,i<n->j<n->I s->(∀s',I s'->C (lt i j) s')->cmp i j C s)
  {G:α->Prop} {Q:α->Shared->Prop} (hq:∀a s,G a->I s->Q a s):∀{t:KasT α} {s:Shared},qO lt n t G->I s->t.kasWp cmp Q s
 | .ret a,s,h,hs=>hq a s h hs
 | .ask i j k,s,h,hs=>hc i j _ s h.1 h.2.1 hs λs' hs'=>qO.wp hc hq (t:=k _) h.2.2 hs'
section
variable {O:KeyOrd}{key:Nat->O.α}{n:Nat}{p:Array Nat}
abbrev ltK (O:KeyOrd) (key:Nat->O.α):Nat->Nat->Bool:=λi j=>O.blt (key i) (key j)
abbrev kp (key:Nat->O.α) (p:Array Nat) (i:Nat):O.α:=key (p.getD i 0)
def xN (key:Nat->O.α) (p:Array Nat) (k:Nat):Prop:=∀i j,i<=j->j<k->O.kle (kp key p i) (kp key p j)
def wq (key:Nat->O.α) (p:Array Nat) (k:Nat):Prop:=∀i j,i<=j->j<k->O.kle (kp key p j) (kp key p i)
def qc (n:Nat) (p:Array Nat):Prop:=p.Perm (aO n).toArray
theorem qc.size (h:qc n p):p.size=n:=by have:=h.size_eq;simpa using this
theorem qc.lt (h:qc n p) (hn:0<n) (i:Nat):p.getD i 0<n:=by
 by_cases hi:i<p.size
 ·have e:p.getD i 0=p[i]:=by simp [m6,hi]
  rw [e]
  have hm:p[i]∈(aO n).toArray.toList:=(Array.perm_iff_toList_perm.mp h).mem_iff.mp (by simp)
  simpa using hm
 ·have e:p.getD i 0=0:=by simp [m6,hi]
  rw [e];exact hn
theorem xO {p q:Array Nat}{i j:Nat}(h:p[i]? = q[j]?):p.getD i 0=q.getD j 0:=by
 rw [fI,fI,h]
theorem kE {src d:Nat}(hs:src<p.size) (hd:d<=src) (k:Nat) :
  kp (O:=O) key (bubble p src d) k=if k=src-d then kp key p src else if src-d<k/\k<=src then kp key p (k-1) else kp key p k:=by
 have e:=getElem?_bubble hs d hd k
 unfold kp
 by_cases h1:k=src-d
 ·rw [if_pos h1] at e ⊢;rw [xO e]
 ·rw [if_neg h1] at e ⊢
  by_cases h2:src-d<k/\k<=src
  ·rw [if_pos h2] at e ⊢;rw [xO e]
  ·rw [if_neg h2] at e ⊢;rw [xO e]
theorem QI {i j:Nat}(hj:j<=p.size) (k:Nat):kp (O:=O) key (nA p i j) k=if i<=k/\k<j then kp key p (i+j-1-k) else kp key p k:=by
 have e:=getElem?_mirror_all (i:=i) hj k
 unfold kp nA
 by_cases h1:i<=k/\k<j
 ·rw [if_pos h1] at e ⊢;rw [xO e]
 ·rw [if_neg h1] at e ⊢;rw [xO e]
theorem xa {i j:Nat}(hj:j<=p.size) (heq:∀k,i<=k->k<j->kp (O:=O) key p k=kp key p (j-1)) (k:Nat):kp (O:=O) key (nA p i j) k=kp key p k:=by
 rw [QI hj]
 split
 ·rw [heq _ ∅ ∅,heq k ∅ ∅]
 ·rfl
theorem qc.rev (h:qc n p) (i j:Nat):qc n (nA p i j):=(mirror_perm _ _ _ _).trans h
theorem qc.bub (h:qc n p) (i j:Nat):qc n (bubble p i j):=(bubble_perm _ _ _).trans h
theorem gh (hP:qc n p) (hn:0<n) {G:Nat->Prop}:∀(f a:Nat),1<=a->xN (O:=O) key p a ->
  (∀m,a<=m->m<=a+f->xN (O:=O) key p m->(m=a+f\/O.klt (kp key p m) (kp key p (m-1)))->G m)->qO (ltK O key) n (kas_asc p f a) G
 | 0,a,_,hs,h=>h a (ao _) (ao _) hs (.inl rfl)
 | f+1,a,h1,hs,h=>by
  refine ⟨hP.lt hn _,hP.lt hn _,?_⟩
  show qO _ _ (if O.blt (kp key p a) (kp key p (a-1))=true then _ else _) _
  cases hless:O.blt (kp key p a) (kp key p (a-1)) with
  | true=>rw [if_pos rfl];exact h a (ao _) ∅ hs (.inr hless)
  | false =>
   rw [if_neg aq]
   refine gh hP hn f (a+1) ∅ (λi j hij hj=>?_) λm hm1 hm2 hsm ho=>h m ∅ ∅ hsm (ho.imp (λz=>∅) id)
   by_cases hja:j<a
   ·exact hs i j hij hja
   ·have hj':j=a:=∅
    subst hj'
    by_cases hi':i=j
    ·subst hi';exact cB _
    ·exact fe (hs i (j-1) ∅ ∅) hless
theorem wW (hP:qc n p) {m nrem:Nat}{G:Nat×Array Nat->Prop}(h1:1<=m) (hm:m<=nrem) (hn:nrem<=n) (hs:wq (O:=O) key p m)
  (h:∀k p',qc n p'->1<=k->k<=nrem->xN (O:=O) key p' k->G (k,p')):qO (ltK O key) n (oJ m nrem p) G:=by
 have hsz:m<=p.size:=by rw [hP.size];omega
 refine qO.bind (gh (hP.rev _ _) ∅ _ m h1 (λi j hij hj=>?_) λk hk1 hk2 hk3 _=>h k _ (hP.rev _ _) ∅ ∅ hk3)
 rw [QI hsz,QI hsz,if_pos ∅,if_pos ∅]
 exact hs _ _ ∅ ∅
theorem yZ {nrem:Nat}(hn:nrem<=n) {G:Array Nat×Nat×Nat->Prop}:∀(f:Nat) (p:Array Nat) (x q:Nat),qc n p->1<=x->x+f=nrem->wq (O:=O) key p x->q+1<=x ->
  (∀i,x-(q+1)<=i->i<x->kp (O:=O) key p i=kp key p (x-1)) ->
  (∀p' m q',qc n p'->x<=m->m<=nrem->wq (O:=O) key p' m->q'+1<=m->(∀i,m-(q'+1)<=i->i<m->kp (O:=O) key p' i=kp key p' (m-1))->G (p',m,q')) ->
  qO (ltK O key) n (kas_desc f p x q) G
 | 0,p,x,q,hP,h1,hx,hs,hq,he,h=>h p x q hP (ao _) ∅ hs hq he
 | f+1,p,x,q,hP,h1,hx,hs,hq,he,h=>by
  have hsz:x<=p.size:=by rw [hP.size];omega
  refine ⟨hP.lt ∅ _,hP.lt ∅ _,?_⟩
  show qO _ _ (if O.blt (kp key p x) (kp key p (x-1))=true then _ else _) _
  cases hless:O.blt (kp key p x) (kp key p (x-1)) with
  | true =>
   rw [if_pos rfl]
   have step1:∀p':Array Nat,(∀k,kp (O:=O) key p' k=kp key p k)->wq (O:=O) key p' (x+1):=by
    intro p' hk i j hij hj
    rw [hk,hk]
    by_cases hjx:j<x
    ·exact hs i j hij hjx
    ·have hj':j=x:=∅
     subst hj'
     by_cases hi':i=j
     ·subst hi';exact cB _
     ·exact fe (eO hless) (hs i (j-1) ∅ ∅)
   by_cases hneq:q > 0
   ·rw [if_pos hneq]
    exact yZ hn f _ (x+1) 0 (hP.rev _ _) ∅ ∅ (step1 _ (xa hsz he)) ∅ (λi h1 h2=>by congr 1;omega) λp' m q' a b=>h p' m q' a ∅
   ·rw [if_neg hneq]
    exact yZ hn f _ (x+1) 0 hP ∅ ∅ (step1 _ λ_=>rfl) ∅ (λi h1 h2=>by congr 1;omega) λp' m q' a b=>h p' m q' a ∅
  | false =>
   rw [if_neg aq]
   refine ⟨hP.lt ∅ _,hP.lt ∅ _,?_⟩
   show qO _ _ (if O.blt (kp key p (x-1)) (kp key p x)=true then _ else _) _
   cases hlarger:O.blt (kp key p (x-1)) (kp key p x) with
   | true=>rw [if_pos rfl];exact h p x q hP (ao _) ∅ hs hq he
   | false =>
    rw [if_neg aq]
    have heqx:kp (O:=O) key p x=kp key p (x-1):=fF hlarger hless
    refine yZ hn f p (x+1) (q+1) hP ∅ ∅ (λi j hij hj=>?_) ∅ (λi h1 h2=>?_) λp' m q' a b=>h p' m q' a ∅
    ·by_cases hjx:j<x
     ·exact hs i j hij hjx
     ·have hj':j=x:=∅
      subst hj'
      by_cases hi':i=j
      ·subst hi';exact cB _
      ·rw [heqx];exact hs i (j-1) ∅ ∅
    ·rw [show x+1-1=x by omega]
     by_cases hix:i=x
     ·subst hix;rfl
     ·rw [heqx];exact he i ∅ ∅
theorem vh (hP:qc n p) {m nrem:Nat}{G:Nat×Array Nat->Prop}(hm:m+1<=nrem) (hn:nrem<=n) (hs:wq (O:=O) key p (m+1))
  (h:∀k p',qc n p'->1<=k->k<=nrem->xN (O:=O) key p' k->G (k,p')):qO (ltK O key) n (kas_descPart m nrem p) G:=by
 refine qO.bind (yZ hn _ p (m+1) 0 hP ∅ ∅ hs ∅ (λi h1 h2=>by congr 1;omega) λp' k q hP' hk1 hk2 hs' hq he=>?_)
 have hsz:k<=p'.size:=by rw [hP'.size];omega
 show qO _ _ (if q > 0 then oJ k nrem (nA p' (k-(q+1)) k) else oJ k nrem p') _
 by_cases hneq:q > 0
 ·rw [if_pos hneq]
  refine wW (hP'.rev _ _) ∅ hk2 hn (λi j hij hj=>?_) h
  rw [xa hsz he,xa hsz he]
  exact hs' i j hij hj
 ·rw [if_neg hneq]
  exact wW hP' ∅ hk2 hn hs' h
theorem Xz (hP:qc n p) (hn:0<n) {G:Nat×Array Nat->Prop}(h:∀k p',qc n p'->1<=k->k<=n->xN (O:=O) key p' k->G (k,p')):qO (ltK O key) n (kas_count n p) G:=by
 refine qO.bind (gh hP hn _ 1 (ao 1) (λi j hij hj=>by have:i=j:=∅;subst this;exact cB _) λm hm1 hm2 hsm hor=>?_)
 by_cases hnn:m=n
 ·rw [if_pos (by simpa using hnn)]
  exact h m p hP hm1 ∅ hsm
 ·rw [if_neg (by simpa using hnn)]
  have hlt:O.klt (kp key p m) (kp key p (m-1)):=by
   rcases hor with z | z
   ·omega
   ·exact z
  by_cases hgt:m > 1
  ·rw [if_pos hgt]
   refine ⟨hP.lt hn _,hP.lt hn _,?_⟩
   show qO _ _ (if O.blt (kp key p 0) (kp key p (m-1))=true then _ else _) _
   cases hrose:O.blt (kp key p 0) (kp key p (m-1)) with
   | true=>rw [if_pos rfl];exact h m p hP hm1 ∅ hsm
   | false =>
    rw [if_neg aq]
    have hsz:m<=p.size:=by rw [hP.size];omega
    have hall:∀k,0<=k->k<m->kp (O:=O) key p k=kp key p (m-1):=by
     intro k _ hk
     have a1:=hsm 0 k ∅ hk
     have a2:=hsm k (m-1) ∅ ∅
     exact fF a2 (fe hrose a1)
    refine vh (hP.rev _ _) ∅ (ao _) (λi j hij hj=>?_) h
    rw [xa hsz hall,xa hsz hall]
    by_cases hjn:j<m
    ·rw [hall i ∅ ∅,hall j ∅ hjn];exact cB _
    ·have hj':j=m:=∅
     subst hj'
     by_cases hi':i=j
     ·subst hi';exact cB _
     ·rw [hall i ∅ ∅];exact eO hlt
  ·rw [if_neg hgt]
   have hm1':m=1:=∅
   subst hm1'
   refine vh hP ∅ (ao _) (λi j hij hj=>?_) h
   by_cases hi':i=j
   ·subst hi';exact cB _
   ·have hi0:i=0:=∅
    have hj1:j=1:=∅
    subst hi0;subst hj1
    exact eO hlt
theorem vV (hP:qc n p) (hn:0<n) {k:Nat}(hs:xN (O:=O) key p k) {G:Nat->Prop}:∀(f l r:Nat),l<=r->r<=k->r-l<=f ->
  (∀i,i<l->O.kle (kp key p i) (kp key p k))->(∀i,r<=i->i<k->O.klt (kp key p k) (kp key p i)) ->
  (∀l,l<=k->(∀i,i<l->O.kle (kp key p i) (kp key p k))->(∀i,l<=i->i<k->O.klt (kp key p k) (kp key p i))->G l)->qO (ltK O key) n (kas_place p k f l r) G
 | 0,l,r,hlr,hrk,hm,hlo,hhi,h=>by
  have:l=r:=∅
  subst this
  exact h l hrk hlo hhi
 | f+1,l,r,hlr,hrk,hm,hlo,hhi,h=>by
  unfold kas_place
  by_cases hge:l>=r
  ·rw [if_pos hge]
   have:l=r:=∅
   subst this
   exact h l hrk hlo hhi
  ·rw [if_neg hge]
   refine ⟨hP.lt hn _,hP.lt hn _,?_⟩
   show qO _ _ (if O.blt (kp key p k) (kp key p ((l+r) / 2))=true then _ else _) _
   cases hless:O.blt (kp key p k) (kp key p ((l+r) / 2)) with
   | true =>
    rw [if_pos rfl]
    exact vV hP hn hs f l _ ∅ ∅ ∅ hlo (λi h1 h2=>KeyOrd.klt_of_klt_of_kle hless (hs _ _ h1 h2)) h
   | false =>
    rw [if_neg aq]
    exact vV hP hn hs f _ r ∅ ∅ ∅ (λi h1=>fe (hs i ((l+r) / 2) ∅ ∅) (show O.kle _ _ from hless)) hhi h
theorem QZ (hn:0<n) {G:Array Nat->Prop}:∀(f:Nat) (p:Array Nat) (k:Nat),qc n p->k+f=n->xN (O:=O) key p k ->
  (∀p',qc n p'->xN (O:=O) key p' n->G p')->qO (ltK O key) n (kas_bin f p k) G
 | 0,p,k,hP,hk,hs,h=>h p hP (by rw [<- hk];exact hs)
 | f+1,p,k,hP,hk,hs,h=>by
  refine qO.bind (vV hP hn hs k 0 k (aJ _) (ao _) ∅ (λi hi=>∅) (λi h1 h2=>∅) λl hlk hlo hhi=>?_)
  refine QZ hn f _ (k+1) (hP.bub _ _) ∅ (λi j hij hj=>?_) h
  have hks:k<p.size:=by rw [hP.size];omega
  rw [kE hks ∅,kE hks ∅,show k-(k-l)=l by omega]
  repeat' split
  all_goals first
   | (exfalso;omega)
   | exact cB _
   | exact hlo _ ∅
   | exact eO (hhi _ ∅ ∅)
   | exact hs _ _ ∅ ∅
theorem uI (hn:0<n) {G:Array Nat->Prop}(h:∀p',qc n p'->xN (O:=O) key p' n->G p'):qO (ltK O key) n (oZ n) G:=by
 refine qO.bind (Xz (Array.Perm.refl _) hn λk p' hP h1 hk hs=>?_)
 show qO _ _ (if k<n then kas_bin (n-max k 1) p' (max k 1) else .ret p') _
 by_cases hkn:k<n
 ·rw [if_pos hkn,show max k 1=k by omega]
  exact QZ hn _ p' k hP ∅ hs h
 ·rw [if_neg hkn]
  have e:k=n:=∅
  subst e
  exact h p' hP hs
end
def xS:List Int->List Int->Bool
 | [],[]=>false
 | [],_::_=>true
 | _::_,[]=>false
 | a::x,b::y=>if a=b then xS x y else decide (a<b)
theorem ue:∀a,xS a a=false
 | []=>rfl
 | a::x=>by unfold xS;rw [if_pos rfl];exact ue x
theorem uM:∀a b c,xS a b=true->xS b c=true->xS a c=true
 | [],[],_,h,_=>by cases h
 | [],_::_,[],_,h=>by cases h
 | [],_::_,_::_,_,_=>rfl
 | _::_,[],_,h,_=>by cases h
 | _::_,_::_,[],_,h=>by cases h
 | a::x,b::y,c::z,h1,h2=>by
  unfold xS at h1 h2 ⊢
  by_cases e1:a=b
  ·subst e1
   rw [if_pos rfl] at h1
   by_cases e2:a=c
   ·rw [if_pos e2] at h2 ⊢;exact uM x y z h1 h2
   ·rw [if_neg e2] at h2 ⊢;exact h2
  ·rw [if_neg e1] at h1
   have h1':=of_decide_eq_true h1
   by_cases e2:b=c
   ·subst e2;rw [if_neg e1];exact h1
   ·rw [if_neg e2] at h2
    have h2':=of_decide_eq_true h2
    rw [if_neg ∅]
    exact decide_eq_true ∅
theorem Jj:∀a b c,xS a c=true->xS a b=true\/xS b c=true
 | [],[],[],h=>by cases h
 | [],[],_::_,_=>.inr rfl
 | [],_::_,_,_=>.inl rfl
 | _::_,_,[],h=>by cases h
 | _::_,[],_::_,_=>.inr rfl
 | a::x,b::y,c::z,h=>by
  unfold xS at h ⊢
  by_cases e1:a=b
  ·subst e1
   rw [if_pos rfl]
   by_cases e2:a=c
   ·rw [if_pos e2] at h ⊢;exact Jj x y z h
   ·rw [if_neg e2] at h ⊢;exact .inr h
  ·rw [if_neg e1]
   by_cases e2:b=c
   ·subst e2;rw [if_neg e1] at h;exact .inl h
   ·rw [if_neg e2]
    by_cases e3:a=c
    ·subst e3
     by_cases hab:a<b
     ·exact .inl (decide_eq_true hab)
     ·exact .inr (decide_eq_true ∅)
    ·rw [if_neg e3] at h
     have h':=of_decide_eq_true h
     by_cases hab:a<b
     ·exact .inl (decide_eq_true hab)
     ·exact .inr (decide_eq_true ∅)
theorem uO:∀a b,xS a b=false->xS b a=false->a=b
 | [],[],_,_=>rfl
 | [],_::_,h,_=>by cases h
 | _::_,[],_,h=>by cases h
 | a::x,b::y,h1,h2=>by
  unfold xS at h1 h2
  by_cases e:a=b
  ·subst e
   rw [if_pos rfl] at h1 h2
   rw [uO x y h1 h2]
  ·rw [if_neg e] at h1
   rw [if_neg (λz=>e z.symm)] at h2
   have:=of_decide_eq_false h1
   have:=of_decide_eq_false h2
   omega
def uu:KeyOrd:=⟨List Int,xS,ue,uM,Jj,uO⟩
def YX:KeyOrd:=⟨Int,λa b=>decide (a<b),λa=>by simp,λa b c h1 h2=>by
  have:=of_decide_eq_true h1;have:=of_decide_eq_true h2;exact decide_eq_true ∅,λa b c h=>by
  have:=of_decide_eq_true h
  by_cases hab:a<b
  ·exact .inl (decide_eq_true hab)
  ·exact .inr (decide_eq_true ∅),λa b h1 h2=>by
  have:=of_decide_eq_false h1;have:=of_decide_eq_false h2;omega⟩
end L2
end
section
namespace L2
open PySem.W
open PySem.AutoSeq1 (wpAny_loadPart')
open PySem.MeetsSeq PySem.MeetsSeq2 PySem.MeetsSeq3 PySem.SeqRoads2
theorem kO {its:List ae}{xs:List Int}(h:cF its xs) {i:Nat}(hi:i<its.length):∃t,its[i]? = some (.int (xs[i]'(by have:=h.length;omega)) t):=by
 have hx:i<xs.length:=by have:=h.length;omega
 obtain ⟨u,e1,t,e2⟩:=jz.get (vT h) (i:=i) (x:=V.int xs[i]) (by rw [ar,aa hx];rfl)
 exact ⟨t,by rw [e1,e2]⟩
theorem Z9 (l b:Addr) (items items2:List ae) (n n2:Nat) (dd dd2:Option Addr) (sl sl2:Array (Option ae)) {xs ys:List Int}(hx:cF items xs) (hy:cF items2 ys) (k:Nat) :
  ∀i:Nat,items.length-i=k->i<=items.length->i<=items2.length->Meets (eA.«list.__eq__.loop» ⟨[.ref l,.ref b,bY i,bY 0],[]⟩)
   (λA R s=>s.heap.get? l=some { cls:=.type "list",dict:=dd,data:=.seq items.toArray n,slots:=sl }/\s.heap.get? b=some { cls:=.type "list",dict:=dd2,data:=.seq items2.toArray n2,slots:=sl2 } /\
    R (.ok (.ret (.bool (xS (xs.drop i) (ys.drop i))))) s):=by
 have l1:=hx.length
 have l2:=hy.length
 induction k with
 | zero =>
  intro i hk hi hi2 prog w A R s h
  obtain ⟨hp,g,d,tk,os⟩:=s;obtain ⟨hl,hb,h⟩:=h
  wp_walk using bF hl,bF hb
  have e1:items.toArray[((i:Nat):Int).toNat]? = none:=by simp;omega
  have hd:xs.drop i=[]:=by simp;omega
  rw [hd] at h
  rw [e1]
  wp_walk using bF hl,bF hb
  show R (.ok (.ret (.bool (decide (items.toArray.size<items2.toArray.size))))) _
  have e2:decide (items.toArray.size<items2.toArray.size)=xS [] (ys.drop i):=by
   by_cases hlt:i<ys.length
   ·rw [bT hlt]
    exact decide_eq_true (by simp;omega)
   ·rw [iO ∅]
    exact decide_eq_false (by simp;omega)
  rw [e2]
  exact h
 | succ k ih =>
  intro i hk hi hi2 prog w A R s h
  obtain ⟨hp,g,d,tk,os⟩:=s;obtain ⟨hl,hb,h⟩:=h
  have hlt:i<items.length:=∅
  obtain ⟨t,e1'⟩:=kO hx hlt
  have e1:items.toArray[((i:Nat):Int).toNat]? = some (.int (xs[i]'∅) t):=by simpa using e1'
  wp_walk using bF hl,bF hb
  rw [e1]
  by_cases hlt2:i<items2.length
  ·obtain ⟨u,e2'⟩:=kO hy hlt2
   have e2:items2.toArray[((i:Nat):Int).toNat]? = some (.int (ys[i]'∅) u):=by simpa using e2'
   rw [e2]
   rw [bT (show i<xs.length by omega),bT (show i<ys.length by omega)] at h
   unfold xS at h
   refine ah (ic ?_)
   have hc:((i:Int)+1)=((i+1:Nat):Int):=by push_cast;rfl
   by_cases e:xs[i]'∅=ys[i]'∅
   ·rw [if_pos e] at h
    rw [beq_iff_eq.mpr e]
    wp_walk
    rw [hc]
    exact ⟨ia plain_eq_loop _,fB entry_eq_loop (by
     rw [dA plain_eq_loop _]
     exact ih (i+1) ∅ ∅ ∅ prog w A R _ ⟨hl,hb,h⟩)⟩
   ·rw [if_neg e] at h
    rw [beq_eq_false_iff_ne.mpr e]
    wp_walk using bF hl,bF hb
    rw [e1,e2]
    refine ah (show ay (aA prog w) _ (richCompare .Lt _ _) _ _ _ from lt_int ?_)
    exact wpAny_pure h
  ·have e2:items2.toArray[((i:Nat):Int).toNat]? = none:=by simp;omega
   rw [e2]
   rw [bT (show i<xs.length by omega),iO (show ys.length<=i by omega)] at h
   wp_walk using bF hl,bF hb
   show R (.ok (.ret (.bool (decide (items.toArray.size<items2.toArray.size))))) _
   rw [decide_eq_false (by simp;omega)]
   exact h
theorem Zd (l b:Addr) (items items2:List ae) (n n2:Nat) (dd dd2:Option Addr) (sl sl2:Array (Option ae)) {xs ys:List Int}(hx:cF items xs) (hy:cF items2 ys) :
  Meets (eA.«list.__lt__» ⟨[.ref l,.ref b],[]⟩)
   (λA R s=>s.heap.get? l=some { cls:=.type "list",dict:=dd,data:=.seq items.toArray n,slots:=sl }/\s.heap.get? b=some { cls:=.type "list",dict:=dd2,data:=.seq items2.toArray n2,slots:=sl2 } /\
    R (.ok (.ret (.bool (xS xs ys)))) s):=by
 intro prog w A R s h
 obtain ⟨hp,g,d,tk,os⟩:=s;obtain ⟨hl,hb,h⟩:=h
 have f3:=AutoSeq1.sub_list_list
 wp_walk using bF hl,bF hb
 exact ⟨ia plain_eq_loop _,fB entry_eq_loop (by
  rw [dA plain_eq_loop _]
  exact Z9 l b items items2 n n2 dd dd2 sl sl2 hx hy _ 0 rfl (aJ _) (aJ _) prog w A R _ ⟨hl,hb,by simpa using h⟩)⟩
section
variable {prog:Program}{w:aX}{A:bg}{E:ae->Shared->Prop}{s:Shared}
theorem gZ {l b:Addr}{items items2:List ae}{xs ys:List Int}{n n2:Nat}{dd dd2:Option Addr}{sl sl2:Array (Option ae)}{Q:Bool->Shared->Prop}(hu:A.units<cLine)
  (hl:s.heap.get? l=some { cls:=.type "list",dict:=dd,data:=.seq items.toArray n,slots:=sl }) (hb:s.heap.get? b=some { cls:=.type "list",dict:=dd2,data:=.seq items2.toArray n2,slots:=sl2 })
  (hx:cF items xs) (hy:cF items2 ys) (h:Q (xS xs ys) s):ay (aA prog w) A (oneLt' true (.ref l) (.ref b)) Q E s:=by
 rw [oneLt'_eq]
 simp only [if_true]
 refine ah (wpAny_cRoomFor hu ?_)
 refine ah (wpAny_callSpecialIfBound?_slot ⟨_,hl,rfl⟩ lu (lX lu ⟨_,hl,rfl⟩ PySem.F.entry_list_lt (PySem.F.args_list_lt_2 _ _) (Zd l b items items2 n n2 dd dd2 sl sl2 hx hy) ⟨hl,hb,?_⟩))
 exact bU h
theorem Q9 {x y:Addr}{ox oy:Obj}{items items2:List ae}{xs ys:List Int}{n k:Nat}{Q:Bool->Shared->Prop}(hx:s.heap.get? x=some ox) (dx:ox.data = .seq items.toArray n) (hy:s.heap.get? y=some oy) (dy:oy.data = .seq items2.toArray k)
  (ix:cF items xs) (iy:cF items2 ys) (h:Q (xS xs ys) s):ay (aA prog w) A (keyLt' (tuples' true) (.ref x) (.ref y)) Q E s:=by
 refine kat_lt hx dx hy dy ?_
 have go:∀(items items2:List ae) (xs ys:List Int) (i:Nat) (fin:Bool),cF items xs->cF items2 ys->(∀m:Nat,xs.length=m+items.length-items.length->True) ->
   fin=decide (items.length<items2.length)->Q (xS xs ys) s->KatLex prog w A true fin Q (items.zip items2) i s:=by
  intro items items2 xs ys i fin a b
  induction a generalizing items2 ys i with
  | nil =>
   intro _ hf hq
   cases b with
   | nil=>subst hf;exact hq
   | cons m u r=>subst hf;exact hq
  | cons m u r ih =>
   intro _ hf hq
   cases b with
   | nil=>subst hf;exact hq
   | cons m' u' r' =>
    refine kat_cons (ic ?_)
    unfold xS at hq
    by_cases e:m=m'
    ·rw [beq_iff_eq.mpr e]
     rw [if_pos e] at hq
     refine kat_yes (ih _ _ _ r' (λ_ _=>trivial) ?_ hq)
     rw [hf]
     simp
    ·rw [beq_eq_false_iff_ne.mpr e]
     rw [if_neg e] at hq
     refine kat_no ?_
     cases hb:(true && i == 0) with
     | true=>exact oneLt_int hq
     | false=>exact kat_one _ _ (lt_int hq)
 have e:(items.toArray.toList.zip items2.toArray.toList)=items.zip items2:=by simp
 rw [e]
 exact go items items2 xs ys 0 _ ix iy (λ_ _=>trivial) (by simp) h
end
end L2
end
section
namespace L2
open PySem.W
section
variable {prog:Program}{w:aX}{A:bg}{E:ae->Shared->Prop}{s:Shared}
theorem vq (its:List ae):(its.toArray.zip its.toArray).map (·.2)=its.toArray:=by
 apply Array.toList_inj.mp
 rw [mM,ksk_zip]
 show (its.zip its).map oX=its
 rw [ip]
 exact ao _
theorem yQ (its:List ae):((aO its.length).map λi=>its.getD i b7)=its:=by
 apply iq
 ·simp
 ·intro i h1 h2
  simp at h1
  simp [h1]
theorem JX {l:Addr}{its:List ae}{κ:o8}{lt:Nat->Nat->Bool}{G:List Nat->Prop}{Q:ae->Shared->Prop}(hl:s.heap.IsList l its.toArray) (h64:its.length<64)
  (hk:2<=its.length->∀h',(∀b o,s.heap.get? b=some o->h'.get? b=some o)->∀Q':o8->Shared->Prop,Q' κ { s with heap:=h' }->ay (aA prog w) A.in1.in1 (keyKind' its.toArray) Q' (λ_ _=>False) { s with heap:=h' })
  (hc:∀h',(∀b o,s.heap.get? b=some o->h'.get? b=some o)->∀i j,i<its.length->j<its.length->∀Q':Bool->Shared->Prop,Q' (lt i j) { s with heap:=h' } ->
   ay (aA prog w) A.in1.in1 (keyLt' κ (its.getD i b7) (its.getD j b7)) Q' (λ_ _=>False) { s with heap:=h' })
  (hs:2<=its.length->qO lt its.length (oZ its.length) λp=>qc its.length p/\G p.toList) (h1:its.length<2->G (aO its.length))
  (h:∀(ix:List Nat) (h':Heap) (n:Nat),ix.Perm (aO its.length)->G ix->(∀b o,s.heap.get? b=some o->h'.get? b=some o) ->
   h'.get? (s.heap.objs.size+1)=some (bc "list" (ix.map λi=>its.getD i b7).toArray n)->Q (.ref (s.heap.objs.size+1)) { s with heap:=h' }) :
  ay (aA prog w) A (call (.builtin "sorted") [.ref l]) Q E s:=by
 refine fY mX mz mB (args_sorted1 _) ?_
 unfold eA.«sorted»
 refine ah (m:=o9 "sorted" 1 1 _) (wpAny_pure ?_)
 refine ah (collect_list hl ?_ (by rw [bu];omega))
 refine ah (dP ?_ (by rw [bu];omega))
 have hsz:((s.heap.push (bc "list" #[] 0)).update s.heap.objs.size (aQ (· ++ its.toArray))).objs.size=s.heap.objs.size+1:=by
  rw [d5,m7]
 have ho:(((s.heap.push (bc "list" #[] 0)).update s.heap.objs.size (aQ (· ++ its.toArray))).push (bc "list" its.toArray 0)).get? (s.heap.objs.size+1)=some (bc "list" its.toArray 0):=by
  rw [<- hsz];exact aD _ rfl
 have keep:∀b o,s.heap.get? b=some o->(((s.heap.push (bc "list" #[] 0)).update s.heap.objs.size (aQ (· ++ its.toArray))).push (bc "list" its.toArray 0)).get? b=some o:=λb o q=>by
  have hlt:b<s.heap.objs.size:=ax q
  rw [c9 _ _ _ (by rw [hsz];exact aB (bW hlt)),bJ _ _ _ _ (aB hlt),c9 _ _ _ (aB hlt)]
  exact q
 show ay _ _ _ _ _ { s with heap:=((s.heap.push (bc "list" #[] 0)).update s.heap.objs.size (aQ (· ++ its.toArray))).push (bc "list" its.toArray 0) }
 rw [hsz]
 refine ah (bO (ir lx ⟨_,ho,rfl⟩ iW ?body (oa _)))
 case body =>
  generalize hh0:((s.heap.push (bc "list" #[] 0)).update s.heap.objs.size (aQ (· ++ its.toArray))).push (bc "list" its.toArray 0)=h0 at ho keep
  generalize ha:s.heap.objs.size+1=a at ho h
  have aNew:∀b o,s.heap.get? b=some o->b≠a:=λb o q=>by have:=ax q;rw [<- ha];exact aB (bW this)
  show ay (aA prog w) A.in1.in1 (eA.«list.sort» ⟨[.ref a],[]⟩) _ _ { s with heap:=h0 }
  rw [n5]
  have hal:a<h0.objs.size:=ax ho
  refine ah (iP ho rfl ?_)
  refine ah (cq ho rfl ?_ (by rw [aw,bu];omega) (aJ _))
  obtain ⟨e1,ho1⟩:∃e1,(h0.update a (aQ λ_=>(#[]:Array ae))).get? a=some (bc "list" #[] e1):=⟨_,dj ho (λ_=>#[])⟩
  refine ah (dB ho1 rfl ?_)
  refine ah (ly ?_ (by show its.length<=_;rw [bu];omega))
  refine ah (dP ?_ (aJ _))
  refine bO ?_
  have ho6:(((h0.update a (aQ λ_=>(#[]:Array ae))).push (bc "tuple" its.toArray 0)).push (bc "list" #[] 0)).get? a=some (bc "list" #[] e1):=by
   rw [c9 _ _ _ (by rw [m7,d5];exact aB (bW hal)),c9 _ _ _ (by rw [d5];exact aB hal)]
   exact ho1
  have keep6:∀b o,s.heap.get? b=some o->(((h0.update a (aQ λ_=>(#[]:Array ae))).push (bc "tuple" its.toArray 0)).push (bc "list" #[] 0)).get? b=some o:=λb o q =>
   aj _ (aj _ ((bJ _ _ _ _ (aNew b o q)).trans (keep b o q)))
  show ay (aA prog w) A.in1.in1 _ _ _ { s with heap:=((h0.update a (aQ λ_=>(#[]:Array ae))).push (bc "tuple" its.toArray 0)).push (bc "list" #[] 0) }
  generalize ((h0.update a (aQ λ_=>(#[]:Array ae))).push (bc "tuple" its.toArray 0)).push (bc "list" #[] 0)=h6 at ho6 keep6
  dsimp only
  have fin:∀(ix:List Nat),ix.Perm (aO its.length)->G ix->∀out:Array ae,out=(ix.map λi=>its.getD i b7).toArray ->
    ∃v,og (Flow.ret b7) = .done (.ret v)/\ay (aA prog w) A.in1 (do let _ <- pure v;ret (aZ a)) (λfin s'=>∃v,fin = .done (.ret v)/\Q v s') E { s with heap:=h6.update a (aQ λ_=>out) }:=λix hp hg out ho'=>by
   refine ⟨_,rfl,ah (wpAny_pure (wpAny_pure ⟨_,rfl,?_⟩))⟩
   subst ho'
   exact h ix _ _ hp hg (λb o q=>(bJ _ _ _ _ (aNew b o q)).trans (keep6 b o q)) (dj ho6 λ_=>_)
  by_cases h2:its.toArray.size<2
  ·rw [if_pos h2,if_pos h2]
   refine ah (wpAny_pure ?_)
   rw [iX]
   refine ah (wpAny_pure ?_)
   dsimp only
   refine ah (dB ho6 rfl ?_)
   rw [vq]
   refine ah (cq ho6 rfl ?_ (aJ _) (by rw [aw,bu];omega))
   simp only [bne_self_eq_false,cn,if_false]
   rw [aw] at h2
   exact wpAny_pure (fin _ (lz _) (h1 h2) _ (by rw [yQ]))
  ·rw [if_neg h2,if_neg h2]
   rw [aw] at h2
   refine ah (aV (hk ∅ h6 keep6 (λκ' s'=>κ'=κ/\s'={ s with heap:=h6 }) ⟨rfl,rfl⟩) (λκ' s' q=>?_) λ_ _ x=>x.elim)
   obtain ⟨rfl,rfl⟩:=q
   refine ah (aV (kat_run (ks:=its) (vs:=its) (κ:=κ') (G:=λp s'=>(qc its.length p/\G p.toList)/\s'={ s with heap:=h6 }) (Q:=λst' s'=>∃p:Array Nat,arrOf st'=p.map (p0 (its.toArray.zip its.toArray))/\oh st'=none/\(qc its.length p/\G p.toList)/\s'={ s with heap:=h6 })
    rfl ∅ h64 (λp st' s' a1 a2 a3 a4=>⟨p,a2,a3,a4⟩) (qO.wp (I:=λs'=>s'={ s with heap:=h6 }) (λi j C s' hi hj hI hC=>?_) (λp s' hp hI=>⟨hp,hI⟩) (hs ∅) rfl)) ?_ λ_ _ e=>e)
   ·subst hI
    exact hc h6 keep6 i j hi hj C (hC _ rfl)
   ·rintro ⟨⟨⟩,st'⟩ s' ⟨p,har,hf,⟨hP,hG⟩,rfl⟩
    dsimp only
    have hout:=pe (ks:=its) (vs:=its) rfl har
    have hz:(mC (p.toList.map λi=>its.getD i b7)).size=its.length:=by rw [aw,af,bI,hP.size]
    rw [hout]
    refine ah (dB ho6 rfl ?_)
    refine ah (cq ho6 rfl ?_ (aJ _) (by rw [hz,bu];omega))
    rw [hf]
    simp only [bne_self_eq_false,cn,if_false]
    exact wpAny_pure (fin p.toList (by have:=Array.perm_iff_toList_perm.mp hP;simpa using this) hG _ rfl)
end
end L2
end
section
namespace L2
open PySem.W
def vH (O:KeyOrd) (key:Nat->O.α) (vs out:List V):Prop:=∃ix:List Nat,ix.Perm (aO vs.length)/\out=(ix.map λi=>vs.getD i V.non)/\(ix.map key).Pairwise O.kle
theorem xN.pairwise {O:KeyOrd}{key:Nat->O.α}{p:Array Nat}{n:Nat}(hs:xN (O:=O) key p n) (hz:p.size=n):(p.toList.map key).Pairwise O.kle:=by
 rw [List.pairwise_iff_getElem]
 intro i j hi hj hij
 simp at hi hj
 have q:=hs i j (cT hij) ∅
 unfold kp at q
 have e1:p.getD i 0=p[i]:=by simp [m6,hi]
 have e2:p.getD j 0=p[j]:=by simp [m6,hj]
 rw [e1,e2] at q
 simpa using q
theorem kM:∀{vs:List V}{us:List ae},jz vs us->∀i,jA (vs.getD i V.non) (us.getD i b7)
 | _,_,.nil,_=>rfl
 | _,_,.cons r _,0=>r
 | _,_,.cons _ t,i+1=>kM t i
theorem vM {vs:List V}{us:List ae}(r:jz vs us):∀ix:List Nat,jz (ix.map λi=>vs.getD i V.non) (ix.map λi=>us.getD i b7)
 | []=>.nil
 | i::ix=>.cons (kM r i) (vM r ix)
theorem Y7 {a b:Int}(h:YX.kle a b):a<=b:=Int.not_lt.mp (of_decide_eq_false h)
def zN (H:Hp) (vs:List V) (rows:List (List Int)):Prop:=cf (λv (r:List Int)=>∃a,v=V.ref a/\H a=some (.lst (r.map V.int))) vs rows
theorem Paired.get {α β:Type}{F:α->β->Prop}:∀{l₁:List α}{l₂:List β}{i:Nat}{x:α},cf F l₁ l₂->l₁[i]? = some x->∃y,l₂[i]? = some y/\F x y
 | _,_,_,_,.nil,e=>by simp at e
 | _,_,0,_,.cons r _,e=>by simp at e;subst e;exact ⟨_,rfl,r⟩
 | _,_,i+1,v,.cons _ t,e=>by
  obtain ⟨d,h1,h2⟩:=Paired.get (i:=i) (x:=v) t (by simpa using e)
  exact ⟨d,by simpa using h1,h2⟩
theorem xI:∀{ns:List Int}{us:List ae},jz (ns.map V.int) us->cF us ns
 | [],_,.nil=>.nil
 | n::ns,_,.cons ⟨t,e⟩ r=>by subst e;exact .cons n t (xI r)
section
variable {X:Cx}
theorem wK (K:ai) (hu:X.A.units+64<cLine) (hK:X.K=K:=by rfl):qA X (.builtin "sorted") (λxs H Q=>∃p vs rows,xs=[.ref p]/\SqL K H p vs/\vs.length<64/\zN H vs rows /\
  ∀l H' out,H l=none->H' l=some (.lst out)->jn H H'->vH uu (λi=>rows.getD i []) vs out->Q (.ref l) H'):=by
 subst hK
 intro pins s σ H xs us Q I r h
 obtain ⟨p,vs,rows,rfl,hq,h64,hr,k⟩:=h
 obtain ⟨u,rfl,ru⟩:=zt r
 cases ru
 obtain ⟨its,rv,pl,hz⟩:=I.list hq
 have hlen:its.length=vs.length:=rv.length.symm
 have item:∀i,i<its.length->∃a its' n,its.getD i b7 = .ref a/\s.heap.get? a=some { cls:=.type "list",data:=.seq its'.toArray n }/\cF its' (rows.getD i []):=λi hi=>by
  have e1:vs[i]? = some (vs[i]'∅):=aa ∅
  obtain ⟨y,e2,a,e3,e4⟩:=Paired.get hr e1
  obtain ⟨u,e5,ru⟩:=rv.get e1
  rw [e3] at ru
  cases ru
  obtain ⟨z,its',n,rv',e6⟩:=I.hok a _ e4
  refine ⟨a,its',n,by rw [ak,e5];rfl,e6,?_⟩
  rw [ak,e2]
  exact xI rv'
 have hun:X.A.in1.in1.units<cLine:=by
  show X.A.units+1+1<cLine
  omega
 refine JX (κ:=oneType') (lt:=ltK uu λi=>rows.getD i []) (G:=λix=>(ix.map λi=>rows.getD i []).Pairwise uu.kle) pl.isList ∅ (λh2 h' hk' Q' q=>?_) (λh' hk' i j hi hj Q' q=>?_) (λh2=>?_) (λh1=>?_) λix h' n hp hg hk' hn=>?_
 ·refine kas_kind (T:=.type "list") h2 (λv hv=>?_) rfl rfl q
  obtain ⟨i,hi,rfl⟩:=List.mem_iff_getElem.mp hv
  obtain ⟨a,its',n,e1,e2,_⟩:=item i hi
  have e3:its[i] = .ref a:=by rw [<- e1];simp [hi]
  rw [e3]
  exact (show Looks _ h' (oM (.ref a)) _ from (Looks.ld (hk' _ _ e2)).andThen .now)
 ·obtain ⟨a,its',n,e1,e2,e3⟩:=item i hi
  obtain ⟨b,its2,n2,f1,f2,f3⟩:=item j hj
  rw [e1,f1,keyLt'_oneType]
  exact gZ hun (hk' _ _ e2) (hk' _ _ f2) e3 f3 q
 ·exact uI ∅ λp' hP hS=>⟨hP,hS.pairwise hP.size⟩
 ·have hcase:its.length=0\/its.length=1:=∅
  rcases hcase with z | z
  ·rw [z];exact eN
  ·rw [z];exact dY _ _
 ·have hf:H (s.heap.objs.size+1)=none:=I.hok.fresh (dX _)
  refine ⟨.ref _,upd H (s.heap.objs.size+1) (.lst (ix.map λi=>vs.getD i V.non)),I.laid (t':=s.toks) hk' (dX _) ⟨?_,_,n,vM rv ix,hn⟩,rfl,k _ _ _ hf j7 (jn.new hf) ⟨ix,by rw [<- hlen];exact hp,rfl,hg⟩⟩
  rw [af,hp.length_eq,bL]
  exact aG (by omega:its.length<=1000) ⋯
end
end L2
end
section
namespace L2
open PySem.W
abbrev vb (qual:Str) (params:Arguments) (body:Expr) (scope:Scope) (pm:ae) (c:Addr) (ctv:ae):FuncData:=kla_fn "<lambda>" qual params body scope [] pm (.ref c) ctv
def Xy (f:Addr) (fd:FuncData):HO:=.ext λh=>h.get? f=some { cls:=.type "function",data:=.func fd }
def Q3 (c:Addr) (qual:Str):HO:=.ext λh=>h.CodeRec (.ref c) qual
def Tab (H:Hp) (Pt:Addr) (pos:Pos) (qual:Str):Prop:=H Pt=some (.tbl #[])\/∃c',H Pt=some (.tbl #[bY pos.line,bY pos.col,.ref c'])/\H c'=some (Q3 c' qual)
theorem Tab.ne {H:Hp}{Pt:Addr}{pos:Pos}{qual:Str}(T:Tab H Pt pos qual):∃ps,H Pt=some (.tbl ps):=by
 rcases T with z | ⟨c',z,_⟩
 ·exact ⟨_,z⟩
 ·exact ⟨_,z⟩
theorem Tab.same {H H':Hp}{Pt:Addr}{pos:Pos}{qual:Str}(T:Tab H Pt pos qual) (s:jn H H'):Tab H' Pt pos qual:=by
 rcases T with z | ⟨c',z,y⟩
 ·exact .inl (s _ _ z)
 ·exact .inr ⟨c',s _ _ z,s _ _ y⟩
theorem Tab.ext {H H':Hp}{Pt b:Addr}{pos:Pos}{qual:Str}{xs:List V}(T:Tab H Pt pos qual) (hb:H b=some (.lst xs)) (e:Ext b H H'):Tab H' Pt pos qual:=by
 rcases T with z | ⟨c',z,y⟩
 ·exact .inl (e _ _ z (jh z hb (by intro q;cases q)))
 ·exact .inr ⟨c',e _ _ z (jh z hb (by intro q;cases q)),e _ _ y (jh y hb (by intro q;cases q))⟩
theorem Tab.extN {H H':Hp}{Pt b:Addr}{pos:Pos}{qual:Str}(T:Tab H Pt pos qual) (hb:H b=none) (e:Ext b H H'):Tab H' Pt pos qual:=T.same λc o h=>e c o h (j1 h hb)
def Bm (mg:Str->Option ae) (base:Heap):Prop:=∃bm ob,mg "__builtins__" = some (.ref bm)/\bm≠iD/\base.get? bm=some ob/\ob.cls = .type "module" /\ ob.dict=some iD/\ob.data = .plain
theorem YS {P:Program}{w:aX}{K:ai}{mg:Str->Option ae}{base:Heap}{k:Nat}{f c:Addr}{qual:Str}{params:Arguments}{body:Expr}{scope:Scope}{pm ctv:ae}{N:List Str}{x:Str}{A:bg}{outer:List Env}{s:Shared}{H:Hp}{u:ae}{v:V}{Q:VK}{t:TE}
  (ho:s.heap.get? f=some { cls:=.type "function",data:=.func (vb qual params body scope pm c ctv) }) (hcd:s.heap.CodeRec (.ref c) qual) (S:FnScope N [x] scope) (hr:Room (k+1) A) (e0:Env0 P w K mg base A outer s H)
  (hb:∀pm c ctv u,c5 (vb qual params body scope pm c ctv) ⟨[u],[]⟩=pure [(x,u)]) (r:jA v u)
  (ht:PE (yO CX0 P w K mg base N qual scope f (.ref c) A outer s H E0).nox body t) (q:t (start N [v]) H Q) :
  cE (aA P w) A (.call (.ref f) ⟨[u],[]⟩) (CR CX0 outer P w H s Q E0) s:=by
 have lim:s.heap.NoLimit:=e0.mod.nolimit.keeps λb o e=>(e0.bs b o e).1
 have hkind:∀y∈([x].zip [u]),scope.names.lookup y.1=some .local\/(scope.names.lookup y.1=some .cell/\((mK (s.heap.objs.size+1) scope.names []).lookup y.1).isSome=true):=λ⟨n,v⟩ hy=>by
  rcases S.par n (fA hy).1 with q | q
  ·exact .inl q
  ·exact .inr ⟨q,eM _ _ _ (.inl q)⟩
 refine kla_callFunE hr.depth ho rfl S.co S.gen rfl hcd ?_
 rw [hb]
 refine wpAny_pure (fQ (binds:=[x].zip [u]) S.kind hkind λenv he s1 y=>?_)
 subst he
 refine ⟨lim.keeps y.toInCall.keep,kla_codeExpr ?_⟩
 have I:Inv (yO CX0 P w K mg base N qual scope f (.ref c) A outer s H E0) [] (start N [v]) H s1:=kI S hr.hd e0 rfl (Paired.cons r .nil) y
 refine aV (ht.nox [] s1 (start N [v]) H _ I q) (λu' s' hs=>?_) λe s' hs=>hs
 obtain ⟨v',H',J,rv,q'⟩:=hs
 exact ⟨v',H',J.os,J.bare,J.base,J.hok,rv,q'⟩
section
variable {X:Cx}{pins:List (Addr×Obj)}{σ:St}{H:Hp}{s:Shared}
theorem ZL {E:ae->Shared->Prop}{c Pt:Addr}{params:Arguments}{body:Expr}{scope:Scope}{pos:Pos}{Q:ae->Shared->Prop}(I:Inv X pins σ H s) (hcode:X.env.code = .ref c) (CH:CodeHd X.base c Pt) (hB:Bm X.mg X.base)
  (hcl:lY scope X.env=pure []) (hdef:defaultsOf params X.env=([],[])) (T:Tab H Pt pos (X.env.qual ++ "<lambda>"))
  (k:∀f H' s' pm c' ctv,Inv X pins σ H' s'->H f=none->H' f=some (Xy f (vb (X.env.qual ++ "<lambda>") params body scope pm c' ctv))->H' c'=some (Q3 c' (X.env.qual ++ "<lambda>"))->Ext Pt H H'->Tab H' Pt pos (X.env.qual ++ "<lambda>")->Q (.ref f) s') :
  ay (aA X.prog X.w) X.A (eval (.Lambda params body scope pos) X.env) Q E s:=by
 refine kla_eval hdef ?_
 obtain ⟨bm,ob,b1,b2,b3,b4,b5,b6⟩:=hB
 obtain ⟨ps0,hPt⟩:=T.ne
 have trk:∀{b:Addr} {o:Obj},X.base.get? b=some o->b≠Pt:=λ{b o} e z=>by
  have:=(I.bs b o e).2
  rw [z,hPt] at this;cases this
 have hgN:s.heap.Ns mainGlobals X.mg:=I.ok.mod.glob.keeps I.bk
 have hgP:mainGlobals≠Pt:=by
  obtain ⟨o,es,ep,e,_⟩:=I.ok.mod.glob
  exact trk e
 have hbG:bm≠mainGlobals:=λq=>by
  obtain ⟨o,es,ep,e,hd,_⟩:=I.ok.mod.glob
  rw [q,e] at b3;cases b3;rw [hd] at b6;cases b6
 have hBA:s.heap.BuiltinsAt X.mg Pt:=⟨bm,ob,b1,b2,hbG,trk b3,I.bk _ _ b3,b4,b5,b6⟩
 have LS:∀(f:Addr) (fd:FuncData) (h1 h2:Heap),h1.get? f=some { cls:=.type "function",data:=.func fd }->(∀o,h1.get? f=some o->h2.get? f=some o)->h2.get? f=some { cls:=.type "function",data:=.func fd }:=λf fd h1 h2 e m=>m _ e
 have CS:∀(c:Addr) (q:Str) (h1 h2:Heap),h1.CodeRec (.ref c) q->(∀o,h1.get? c=some o->h2.get? c=some o)->h2.CodeRec (.ref c) q:=λc q h1 h2 ⟨c',o,vs,t,e,g,r⟩ m=>by
  cases e
  exact ⟨c,o,vs,t,rfl,m _ g,r⟩
 rcases T with hT | ⟨c',hT,hC⟩
 ·have eT:s.heap.get? Pt=some (nI #[]):=I.hok Pt _ hT
  refine kla_makeFunction (mg:=X.mg) hcl I.ok.glob hgN hcode (CH.keeps I.bk) eT trivial rfl hgP hBA λc' ctv h' tk hx hge hlt hrec htb=>?_
  have hcN:H c'=none:=I.hok.fresh hge
  have hsz:s.heap.objs.size<=h'.objs.size:=cT (bN hge hlt)
  have hfN:H h'.objs.size=none:=I.hok.fresh hsz
  have neC:∀{b:Addr} {o:Obj},s.heap.get? b=some o->b≠c':=λ{b o} e=>aB (aM (ax e) hge)
  have neF:∀{b:Addr} {o:Obj},s.heap.get? b=some o->b≠h'.objs.size:=λ{b o} e=>aB (aM (ax e) hsz)
  have hPc:Pt≠c':=neC eT
  have hPf:Pt≠h'.objs.size:=neF eT
  have hcf:c'≠h'.objs.size:=aB hlt
  have e':h'.get? Pt=some (nI #[bY pos.line,bY pos.col,.ref c']):=by simpa using htb
  have getF:∀{b:Addr} {o:HO},H b=some o->b≠Pt->upd (upd (upd H Pt (.tbl #[bY pos.line,bY pos.col,.ref c'])) c' (Q3 c' (X.env.qual ++ "<lambda>"))) h'.objs.size (Xy h'.objs.size (vb (X.env.qual ++ "<lambda>") params body scope ((X.mg "__name__").getD .none) c' ctv)) b=some o:=λ{b o} e n=>by
   rw [j5 (j1 e hfN),j5 (j1 e hcN),j5 n];exact e
  have atP:upd (upd (upd H Pt (.tbl #[bY pos.line,bY pos.col,.ref c'])) c' (Q3 c' (X.env.qual ++ "<lambda>"))) h'.objs.size (Xy h'.objs.size (vb (X.env.qual ++ "<lambda>") params body scope ((X.mg "__name__").getD .none) c' ctv)) Pt=some (.tbl #[bY pos.line,bY pos.col,.ref c']):=by
   rw [j5 hPf,j5 hPc,j7]
  have atC:upd (upd (upd H Pt (.tbl #[bY pos.line,bY pos.col,.ref c'])) c' (Q3 c' (X.env.qual ++ "<lambda>"))) h'.objs.size (Xy h'.objs.size (vb (X.env.qual ++ "<lambda>") params body scope ((X.mg "__name__").getD .none) c' ctv)) c'=some (Q3 c' (X.env.qual ++ "<lambda>")):=by
   rw [j5 hcf,j7]
  refine k h'.objs.size (upd (upd (upd H Pt (.tbl #[bY pos.line,bY pos.col,.ref c'])) c' (Q3 c' (X.env.qual ++ "<lambda>"))) h'.objs.size (Xy h'.objs.size (vb (X.env.qual ++ "<lambda>") params body scope ((X.mg "__name__").getD .none) c' ctv))) _ ((X.mg "__name__").getD .none) c' ctv ?_ hfN j7 atC (λb o e n=>getF e n) (.inr ⟨c',atP,atC⟩)
  have kp1:∀b o,b≠Pt->s.heap.get? b=some o->(h'.push (kla_obj "<lambda>" (X.env.qual ++ "<lambda>") params body scope [] ((X.mg "__name__").getD .none) c' ctv)).get? b=some o:=λb o n e=>aj _ (hx b o n e)
  have nP:∀{b:Addr},H b=none->b≠Pt:=λ{b} e z=>by rw [z,hT] at e;cases e
  refine I.step (g':=s.gens) (d':=s.drawn) (ch:=[]) (λ_ z=>nomatch z) (λb o _ _ _ e n=>kp1 b o (nP n) e) (λb o _ _ _ e n=>⟨o.slots,kp1 b o (nP n) e⟩) (λb o _ e n=>?_) (λb o _ e=>?_) (λb xs e=>?_) (λb o u e=>?_) (λb ps e=>?_) (λm hm=>?_) (λb u e=>?_) I.bare
  ·rw [j5 (neF e),j5 (neC e),j5 (nP n)];exact n
  ·by_cases hb:b=Pt
   ·subst hb;exact ⟨_,aj _ e'⟩
   ·exact ⟨o,kp1 b o hb e⟩
  ·exact getF e (jh e hT (by intro z;cases z))
  ·exact getF e (jh e hT (by intro z;cases z))
  ·by_cases hb:b=Pt
   ·subst hb
    rw [hT] at e;cases e
    exact ⟨#[bY pos.line,bY pos.col,.ref c'],by rw [atP];simp⟩
   ·exact ⟨#[],by rw [getF e hb];simp⟩
  ·obtain ⟨o,es,ep,ho,r⟩:=hm
   exact ⟨o,es,ep,kp1 _ o (nP I.free) ho,r⟩
  ·by_cases h1:b=h'.objs.size
   ·subst h1
    rw [j7] at e;cases e
    exact ⟨aD _ rfl,⟨_,aD _ rfl⟩,λh1 h2 e m=>LS _ _ h1 h2 e m⟩
   ·by_cases h2:b=c'
    ·subst h2
     rw [atC] at e;cases e
     obtain ⟨c2,oc,vs,t,e2,hoc,r⟩:=id hrec
     cases e2
     exact ⟨hrec.keeps λb o e=>aj _ e,⟨_,aj _ hoc⟩,λh1 h2 e m=>CS _ _ h1 h2 e m⟩
    ·by_cases h3:b=Pt
     ·subst h3
      rw [atP] at e;cases e
      exact aj _ e'
     ·rw [j5 h1,j5 h2,j5 h3] at e
      refine (I.hok b u e).stay (λb' v hc q=>kp1 b' v ?_ q) (λb' q=>getF q (jh q hT (by intro z;cases z))) λb' xs q=>getF q (jh q hT (by intro z;cases z))
      rcases hc with z | z
      ·rw [z];exact h3
      ·exact jh z hT (by intro z;cases z)
 ·have eT:s.heap.get? Pt=some (nI #[bY pos.line,bY pos.col,.ref c']):=I.hok Pt _ hT
  have tri:TriplesOk (#[bY pos.line,bY pos.col,aZ c']:Array ae).toList:=TriplesOk_snoc pos.line pos.col (.ref c') [] trivial
  have hit:codeAmong pos (#[bY pos.line,bY pos.col,aZ c']:Array ae).toList=some (.ref c'):=codeAmong_snoc (c:=.ref c') [] trivial rfl
  refine kla_makeFunctionHit (mg:=X.mg) hcl I.ok.glob hgN hcode (CH.keeps I.bk) eT tri hit hBA λctv h' tk hk hsz=>?_
  have hfN:H h'.objs.size=none:=I.hok.fresh hsz
  refine k h'.objs.size (upd H h'.objs.size (Xy h'.objs.size (vb (X.env.qual ++ "<lambda>") params body scope ((X.mg "__name__").getD .none) c' ctv))) _ ((X.mg "__name__").getD .none) c' ctv ?_ hfN j7 (by rw [j5 (j1 hC hfN)];exact hC) (Ext.new hfN) (.inr ⟨c',by rw [j5 (j1 hT hfN)];exact hT,by rw [j5 (j1 hC hfN)];exact hC⟩)
  exact I.laid (λb o e=>aj _ (hk b o e)) hsz ⟨aD _ rfl,⟨_,aD _ rfl⟩,λh1 h2 e m=>LS _ _ h1 h2 e m⟩
theorem Inv.adopt {D:Addr}{ob:Obj}{o:HO}{h':Heap}{t':Nat}(I:Inv X ((D,ob)::pins) σ H s) (h1:X.s₀.heap.objs.size<=D) (h2:∀x c,X.env.cells.lookup x=some c->c≠D) (h3:∀p∈X.pn++pins,p.1≠D)
  (k:∀b u,b≠D->s.heap.get? b=some u->h'.get? b=some u) (new:jY X.prog X.w (upd H D o) h' D o):Inv X pins σ (upd H D o) { s with heap:=h',toks:=t' }:=by
 obtain ⟨eD,nD,lD,_,_⟩:=I.pin (D,ob) (aF _ aC)
 have I':Inv X pins σ H s:=I.pins_of λp hp=>I.pin p (aF _ (az _ hp))
 have nit:∀b u,H b=some u->b≠D:=λb u e z=>by rw [z,nD] at e;cases e
 have getF:∀{b:Addr} {u:HO},H b=some u->upd H D o b=some u:=λ{b u} e=>by rw [j5 (nit b u e)];exact e
 refine I'.step (g':=s.gens) (d':=s.drawn) (ch:=[D]) (λb hb=>?_) (λb o _ _ hc e _=>k b o (λz=>hc (by simp [z])) e) (λb o _ _ hc e _=>⟨o.slots,k b o (λz=>hc (by simp [z])) e⟩) (λb o hc _ n=>by rw [j5 (λz=>hc (by simp [z]))];exact n)
  (λb o hc e=>⟨o,k b o (λz=>hc (by simp [z])) e⟩) (λ_ _ e=>getF e) (λ_ _ _ e=>getF e) (λb ps e=>⟨#[],by rw [getF e];simp⟩) (λm hm=>?_) (λb u e=>?_) I'.bare
 ·have e:b=D:=by simpa using hb
  subst e
  exact ⟨.inr h1,lD,h2,h3⟩
 ·obtain ⟨o,es,ep,ho,r⟩:=hm
  exact ⟨o,es,ep,k _ o (cY lD) ho,r⟩
 ·by_cases hb:b=D
  ·subst hb
   rw [j7] at e;cases e
   exact new
  ·rw [j5 hb] at e
   refine (I'.hok b u e).stay (λc v hc q=>k c v ?_ q) (λ_ q=>getF q) λ_ _ q=>getF q
   rcases hc with z | z
   ·rw [z];exact hb
   ·exact nit c _ z
end
end L2
end
section
namespace L2
open PySem.W
def VC (H:Hp) (ks:List V) (keyf:Nat->List Int) (j:Nat):Prop:=ks.length=j/\∀i,i<j->∃q,ks[i]? = some (V.ref q)/\H q=some (.tup ((keyf i).map V.int))
theorem Jc {a b:List ae}(h:a.length=b.length):(a.toArray.zip b.toArray).map (·.2)=b.toArray:=by
 apply Array.toList_inj.mp
 rw [mM,ksk_zip]
 show (a.zip b).map oX=b
 rw [ip]
 omega
section
variable {X:Cx}{pins:List (Addr×Obj)}{σ:St}{H:Hp}{s:Shared}
theorem JI {E:ae->Shared->Prop}{p f:Addr}{vs:List V}{keyf:Nat->List Int}{Q:ae->Shared->Prop}(I:Inv X pins σ H s) (hq:SqL X.K H p vs) (h64:vs.length<64) (hne:∀i,i<vs.length->keyf i≠[])
  (hcall:∀i v,vs[i]? = some v->∀pins' s' H' u,Inv X pins' σ H' s'->jn H H'->jA v u->ay (aA X.prog X.w) X.A.in1.in1 (call (.ref f) [u]) (EP X pins' σ λkv H''=>jn H' H''/\∃q,kv = .ref q/\H'' q=some (.tup ((keyf i).map V.int))) (λ_ _=>False) s')
  (k:∀l H' out s',Inv X pins σ H' s'->H l=none->H' l=some (.lst out)->jn H H'->vH uu keyf vs out->Q (.ref l) s') :
  ay (aA X.prog X.w) X.A (call (.builtin "sorted") [.ref p] [(ag "key",.ref f)]) Q E s:=by
 obtain ⟨its,rv,pl,hz⟩:=I.list hq
 have hlen:its.length=vs.length:=rv.length.symm
 refine call_function_entry_kw mX mz mB (ksk_s1 _ _) ?_
 unfold eA.«sorted»
 refine ah (m:=o9 "sorted" 1 1 _) (wpAny_pure ?_)
 refine ah (collect_list pl.isList ?_ (by rw [bu];omega))
 refine ah (dP ?_ (by rw [bu];omega))
 have hsz:((s.heap.push (bc "list" #[] 0)).update s.heap.objs.size (aQ (· ++ its.toArray))).objs.size=s.heap.objs.size+1:=by
  rw [d5,m7]
 have ho:(((s.heap.push (bc "list" #[] 0)).update s.heap.objs.size (aQ (· ++ its.toArray))).push (bc "list" its.toArray 0)).get? (s.heap.objs.size+1)=some (bc "list" its.toArray 0):=by
  rw [<- hsz];exact aD _ rfl
 have keep:∀b o,s.heap.get? b=some o->(((s.heap.push (bc "list" #[] 0)).update s.heap.objs.size (aQ (· ++ its.toArray))).push (bc "list" its.toArray 0)).get? b=some o:=λb o q=>by
  have hlt:b<s.heap.objs.size:=ax q
  rw [c9 _ _ _ (by rw [hsz];exact aB (bW hlt)),bJ _ _ _ _ (aB hlt),c9 _ _ _ (aB hlt)]
  exact q
 show ay _ _ _ _ _ { s with heap:=((s.heap.push (bc "list" #[] 0)).update s.heap.objs.size (aQ (· ++ its.toArray))).push (bc "list" its.toArray 0) }
 rw [hsz]
 refine ah (bO (wpAny_call_entry_kw lx ⟨_,ho,rfl⟩ iW ?body (ksk_l1 _ _)))
 case body =>
  generalize ((s.heap.push (bc "list" #[] 0)).update s.heap.objs.size (aQ (· ++ its.toArray))).push (bc "list" its.toArray 0)=h0 at ho keep
  generalize ha:s.heap.objs.size+1=a at ho
  have hDs:s.heap.objs.size<=a:=by rw [<- ha];exact dX _
  have aNew:∀b o,s.heap.get? b=some o->b≠a:=λb o q=>by have:=ax q;rw [<- ha];exact aB (bW this)
  show ay (aA X.prog X.w) X.A.in1.in1 (eA.«list.sort» ⟨[.ref a],[(ag "key",.ref f)]⟩) _ _ { s with heap:=h0 }
  rw [ksk_t1]
  unfold ksk_tree
  have hal:a<h0.objs.size:=ax ho
  refine ah (iP ho rfl ?_)
  refine ah (cq ho rfl ?_ (by rw [aw,bu];omega) (aJ _))
  obtain ⟨e1,ho1⟩:∃e1,(h0.update a (aQ λ_=>(#[]:Array ae))).get? a=some (bc "list" #[] e1):=⟨_,dj ho (λ_=>#[])⟩
  refine ah (dB ho1 rfl ?_)
  refine ah (ly ?_ (by show its.length<=_;rw [bu];omega))
  refine ah (dP ?_ (aJ _))
  refine bO ?_
  have ho5:((h0.update a (aQ λ_=>(#[]:Array ae))).push (bc "tuple" its.toArray 0)).get? a=some (bc "list" #[] e1):=aj _ ho1
  have keep5:∀b o,s.heap.get? b=some o->((h0.update a (aQ λ_=>(#[]:Array ae))).push (bc "tuple" its.toArray 0)).get? b=some o:=λb o q =>
   aj _ ((bJ _ _ _ _ (aNew b o q)).trans (keep b o q))
  show ay (aA X.prog X.w) X.A.in1.in1 (ksk_rest a (.ref f) false its.toArray e1 (.ref ((h0.update a (aQ λ_=>(#[]:Array ae))).push (bc "tuple" its.toArray 0)).objs.size)) _ _
   { s with heap:=((h0.update a (aQ λ_=>(#[]:Array ae))).push (bc "tuple" its.toArray 0)).push (bc "list" #[] 0) }
  generalize (h0.update a (aQ λ_=>(#[]:Array ae))).push (bc "tuple" its.toArray 0)=h5 at ho5 keep5
  have I5:Inv X pins σ H { s with heap:=h5,toks:=s.toks }:=I.kept keep5
  have hHa:H a=none:=I.hok.fresh hDs
  have hHk:H h5.objs.size=none:=I5.hok.fresh (ao _)
  have hLoc:a≠X.env.locals:=λz=>by
   obtain ⟨m,⟨o,es,ep,e,_⟩,_⟩:=I.loc
   exact aNew _ _ e z.symm
  have hFs:a∉X.fs:=I.nofs hDs
  have hCell:∀x c,X.env.cells.lookup x=some c->c≠a:=λx c e=>by
   obtain ⟨v,o,e2,_⟩:=I.cell x c e
   exact aNew c o e2
  have hPins:∀q∈X.pn++pins,q.1≠a:=λq hq=>aNew _ _ (I.pin q hq).1
  have I6:Inv X ((a,bc "list" #[] e1)::pins) σ (upd H h5.objs.size (.lst [])) { s with heap:=h5.push (bc "list" #[] 0),toks:=s.toks }:=by
   refine Inv.pins_of (I5.lnew (its:=[]) (ys:=[]) .nil (aJ _)) λq hq=>?_
   rcases List.mem_cons.mp hq with rfl | hq
   ·refine ⟨aj _ ho5,?_,hLoc,hFs,λv=>by intro z;cases z⟩
    rw [j5 (aB (ax ho5))]
    exact hHa
   ·have J:=(I5.lnew (its:=[]) (ys:=[]) (t':=s.toks) .nil (aJ _)).pin q (aF _ hq)
    exact J
  unfold ksk_rest
  refine ah (m8 ?_)
  first
   | rw [List.forIn_toArray]
   | (rw [<- m9];simp only [List.toList_toArray])
   | rw [<- m9]
  refine ah (ksk_fold (λj s'=>∃H' ks,Inv X ((a,bc "list" #[] e1)::pins) σ H' s'/\jn H H'/\H' h5.objs.size=some (.lst ks)/\VC H' ks keyf j) its 0 _
   ⟨_,[],I6,jn.new hHk,j7,rfl,λi hi=>absurd hi (n6 _)⟩ (λj x s' hx hJ=>?_) λs' hJ=>?_)
  ·-- a key
   rw [iQ] at hJ ⊢
   obtain ⟨H',ks,J,sm,hk,hl,hks⟩:=hJ
   have hj:j<its.length:=(List.getElem?_eq_some_iff.mp hx).1
   have hv:vs[j]? = some (vs[j]'∅):=aa ∅
   obtain ⟨u,e5,ru⟩:=rv.get hv
   rw [hx] at e5
   cases e5
   refine ah (wpAny_attempt (aV (hcall j _ hv _ s' H' x J sm ru) (λkv s'' hk2=>?_) λ_ _ hF=>hF.elim))
   obtain ⟨kv',H'',J2,rk,sm2,q,rfl,hqq⟩:=hk2
   dsimp only
   have hk':=sm2 _ _ hk
   obtain ⟨z,itk,n,rvk,hlk,ek⟩:=J2.lstM hk'
   refine ah (cq ek rfl ?_ (by rw [aw,<- hlk,hl,bu];omega) (aG (mi (Array.size_push ..)) (by rw [aw,<- hlk,hl,bu];omega)))
   refine wpAny_pure ⟨rfl,_,ks++[.ref q],J2.lset (t':=s''.toks) (its':=itk++[kv]) hk' ek (by simp) (rvk.append (.cons rk .nil)) (by rw [av,aU,hl];exact aG (by omega:j+1<=1000) ⋯),λb o e=>?_,j7,?_,λi hi=>?_⟩
   ·rw [j5 (j1 e hHk)]
    exact sm2 _ _ (sm _ _ e)
   ·rw [av,aU,hl]
   ·by_cases hij:i<j
    ·obtain ⟨q',e6,e7⟩:=hks i hij
     refine ⟨q',by rw [cg ∅];exact e6,?_⟩
     have e8:=sm2 _ _ e7
     rw [j5 (jh e8 hk' (by intro z;cases z))]
     exact e8
    ·have:i=j:=∅
     subst this
     refine ⟨q,by rw [bM ∅,hl];simp,?_⟩
     rw [j5 (jh hqq hk' (by intro z;cases z))]
     exact hqq
  ·-- behind the keys
   rw [iQ] at hJ
   obtain ⟨H',ks,J,sm,hk,hl,hks⟩:=hJ
   obtain ⟨z,itk,n,rvk,hlk,ek⟩:=J.lstM hk
   have hlk':itk.length=its.length:=∅
   refine ah (iP ek rfl ?_)
   obtain ⟨eD,nD,_⟩:=J.pin (a,bc "list" #[] e1) (aF _ aC)
   have hak:a≠h5.objs.size:=λz=>by rw [z,hk] at nD;cases nD
   have keyAt:∀i,i<its.length->∃q itq o m,itk.getD i b7 = .ref q/\s'.heap.get? q=some o/\o.cls = .type "tuple" /\ o.data = .seq itq.toArray m/\cF itq (keyf i):=λi hi=>by
    obtain ⟨q,e6,e7⟩:=hks i hi
    obtain ⟨u,e8,ru⟩:=rvk.get e6
    cases ru
    obtain ⟨zz,itq,rq,o,e9,ec,m,ed⟩:=J.hok q _ e7
    exact ⟨q,itq,o,m,by rw [ak,e8];rfl,e9,ec,ed,xI rq⟩
   have fin:∀(ix:List Nat) (st':SortSt),ix.Perm (aO its.length)->(ix.map keyf).Pairwise uu.kle->oh st'=none->(arrOf st').map (·.2)=(ix.map λi=>its.getD i b7).toArray ->
     ay (aA X.prog X.w) X.A.in1.in1 (ksk_tail a false e1 (.ref h5.objs.size) st') (λfin s'=>∃v,fin = .done (.ret v)/\ay (aA X.prog X.w) X.A.in1 (do let _ <- pure v;ret (aZ a)) (λfin s'=>∃v,fin = .done (.ret v)/\Q v s') E s') E s':=by
    intro ix st' hp hg hf hout
    unfold ksk_tail
    dsimp only
    rw [hout]
    have hol:(ix.map λi=>its.getD i b7).length<64:=by rw [af,hp.length_eq,bL];omega
    refine ah (cq ek rfl ?_ (by rw [aw,hlk',bu];omega) (aJ _))
    refine ah (wpAny_letGo ?_)
    have J2:Inv X ((a,bc "list" #[] e1)::pins) σ (upd H' h5.objs.size (.lst [])) { s' with heap:=s'.heap.update h5.objs.size (aQ λ_=>(#[]:Array ae)),toks:=s'.toks }:=J.lset (its':=[]) (ys:=[]) hk ek rfl .nil (aJ _)
    have eD2:(s'.heap.update h5.objs.size (aQ λ_=>(#[]:Array ae))).get? a=some (bc "list" #[] e1):=(bJ _ _ _ _ hak).trans eD
    refine ah (dB eD2 rfl ?_)
    refine ah (cq eD2 rfl ?_ (aJ _) (by simp only [cn,if_false];rw [aw,bu];omega))
    rw [hf]
    simp only [bne_self_eq_false,cn,if_false]
    refine wpAny_pure ⟨_,rfl,ah (wpAny_pure (wpAny_pure ⟨_,rfl,?_⟩))⟩
    have eo:∃n,((s'.heap.update h5.objs.size (aQ λ_=>(#[]:Array ae))).update a (aQ λ_=>(ix.map λi=>its.getD i b7).toArray)).get? a=some (bc "list" (ix.map λi=>its.getD i b7).toArray n):=⟨_,dj eD2 λ_=>_⟩
    obtain ⟨n',eo⟩:=eo
    have J3:=J2.adopt (o:=.lst (ix.map λi=>vs.getD i V.non)) (t':=s'.toks) (aG I.sz hDs) hCell hPins
     (h':=(s'.heap.update h5.objs.size (aQ λ_=>(#[]:Array ae))).update a (aQ λ_=>(ix.map λi=>its.getD i b7).toArray)) (λb u n e=>(bJ _ _ _ _ n).trans e) ⟨by rw [af,hp.length_eq,bL];exact aG (by omega:its.length<=1000) ⋯,_,n',vM rv ix,eo⟩
    refine k a _ _ _ J3 hHa j7 (λb o e=>?_) ⟨ix,by rw [<- hlen];exact hp,rfl,hg⟩
    rw [j5 (j1 e hHa),j5 (j1 e hHk)]
    exact sm _ _ e
   unfold ksk_end
   dsimp only
   simp only [cn,if_false]
   by_cases h2:its.toArray.size<2
   ·rw [if_pos h2,if_pos h2]
    refine ah (wpAny_pure ?_)
    rw [iX]
    refine ah (wpAny_pure ?_)
    dsimp only
    rw [aw] at h2
    refine fin (aO its.length) _ (lz _) ?_ rfl ?_
    ·have hcase:its.length=0\/its.length=1:=∅
     rcases hcase with z | z
     ·rw [z];exact eN
     ·rw [z];exact dY _ _
    ·rw [yQ]
     exact Jc hlk'
   ·rw [if_neg h2,if_neg h2]
    rw [aw] at h2
    have tups:∃fs,KatTups s'.heap itk fs/\0<fs.length/\∀v∈fs,Looks (aA X.prog X.w) s'.heap (oM v) (.type "int"):=by
     have go:∀(l:List ae),(∀i,i<l.length->∃q itq o m ns,l.getD i b7 = .ref q/\s'.heap.get? q=some o/\o.cls = .type "tuple" /\ o.data = .seq (mC itq) m/\cF itq ns/\ns≠[]) ->
       ∃fs,KatTups s'.heap l fs/\fs.length=l.length/\∀v∈fs,Looks (aA X.prog X.w) s'.heap (oM v) (.type "int"):=by
      intro l
      induction l with
      | nil=>intro _;exact ⟨[],.nil,rfl,λ_ h=>nomatch h⟩
      | cons v l ih =>
       intro h
       obtain ⟨fs,t,e,lk⟩:=ih λi hi=>h (i+1) (by rw [ba];omega)
       obtain ⟨q,itq,o,m,ns,e1,e2,e3,e4,e5,e6⟩:=h 0 (by rw [ba];omega)
       have e1':v = .ref q:=e1
       subst e1'
       cases e5 with
       | nil=>exact absurd rfl e6
       | cons n t' r =>
        refine ⟨.int n t'::fs,KatTups.cons e2 e3 e4 (by simp) t,by rw [ba,ba,e],λv hv=>?_⟩
        rcases List.mem_cons.mp hv with rfl | hv
        ·exact oE rfl
        ·exact lk v hv
     obtain ⟨fs,t,e,lk⟩:=go itk λi hi=>by
      obtain ⟨q,itq,o,m,a1,a2,a3,a4,a5⟩:=keyAt i ∅
      exact ⟨q,itq,o,m,keyf i,a1,a2,a3,a4,a5,hne i ∅⟩
     exact ⟨fs,t,∅,lk⟩
    obtain ⟨fs,t,hfs,lk⟩:=tups
    refine ah (kat_kind (T:=.type "int") t hfs lk rfl ?_)
    rw [show (fb "int" != fb "tuple")=true from rfl]
    refine ah (aV (kat_run (ks:=itk) (vs:=its) (κ:=tuples' true) (G:=λp s2=>(qc its.length p/\(p.toList.map keyf).Pairwise uu.kle)/\s2=s') (Q:=λst' s2=>∃p:Array Nat,arrOf st'=p.map (p0 (itk.toArray.zip its.toArray))/\oh st'=none/\(qc its.length p/\(p.toList.map keyf).Pairwise uu.kle)/\s2=s')
     hlk' ∅ ∅ (λp st' s' a1 a2 a3 a4=>⟨p,a2,a3,a4⟩) (qO.wp (lt:=ltK uu keyf) (n:=its.length) (I:=λs2=>s2=s') (λi j C s2 hi hj hI hC=>?_) (λp s2 hp hI=>⟨hp,hI⟩) (uI ∅ λp' hP hS=>⟨hP,hS.pairwise hP.size⟩) rfl)) ?_ λ_ _ e=>e)
    ·subst hI
     obtain ⟨q,itq,o,m,a1,a2,a3,a4,a5⟩:=keyAt i hi
     obtain ⟨q',itq',o',m',b1,b2,b3,b4,b5⟩:=keyAt j hj
     unfold kas_ask
     rw [a1,b1]
     exact Q9 a2 a4 b2 b4 a5 b5 (hC _ rfl)
    ·rintro ⟨⟨⟩,st'⟩ s2 ⟨p,har,hf,⟨hP,hG⟩,rfl⟩
     dsimp only
     exact fin p.toList st' (by have:=Array.perm_iff_toList_perm.mp hP;simpa using this) hG hf (pe hlk' har)
end
end L2
end
section
namespace L2
open PySem.W
section
variable {prog:Program}{w:aX}{A:bg}{E:ae->Shared->Prop}{s:Shared}
theorem Qd (n:Nat):dI none none (-1) (n:Int)=((n:Int)-1,-1):=by
 unfold dI
 simp
theorem Qv (n:Nat):cM ((n:Int)-1) (-1) (-1)=n:=by
 unfold cM
 have h1:¬((-1:Int) > 0):=⋯
 simp only [h1,if_false]
 by_cases h:n=0
 ·subst h;simp
 ·rw [show (- -1:Int)=1 by decide]
  simp only [Int.ediv_one]
  split <;> omega
theorem vX {sl:Addr}{v3:ae}{n:Nat}{Q:Int×Int×Nat->Shared->Prop}(hs:s.heap.IsSliceOf sl .none .none v3) (pk:nW v3 (some (-1)))
  (h:Q ((n:Int)-1,-1,n) s):ay (aA prog w) A (fS (.ref sl) (pure (n:Int))) Q E s:=by
 obtain ⟨os,hos,hcs,hds⟩:=id hs
 unfold fS Builtin.Slice.sliceFields
 refine ah (ah (dZ hos hds (x:=.none) rfl (ah (dZ hos hds (x:=.none) rfl (ah (dZ hos hds (x:=v3) rfl (wpAny_pure ?_)))))))
 refine ah (HT.slicePart_ pk ?_)
 show ay _ _ (if ((-1:Int) == 0)=true then _ else _) _ _ s
 rw [if_neg ⋯]
 refine ah (HT.slicePart_ .none (ah (HT.slicePart_ .none (ah (wpAny_pure ?_)))))
 show ay _ _ (match dI none none (-1) (n:Int) with | (lo,hi)=>pure (lo,(-1:Int),cM lo hi (-1))) _ _ s
 rw [Qd n]
 show ay _ _ (pure ((n:Int)-1,(-1:Int),cM ((n:Int)-1) (-1) (-1))) _ _ s
 rw [Qv]
 exact wpAny_pure h
theorem Ye (xs:Array ae):((aO xs.size).filterMap λ(m:Nat)=>xs[(((xs.size:Int)-1)+(m:Int) * -1).toNat]?).toArray=xs.toList.reverse.toArray:=by
 have e:((aO xs.size).filterMap λ(m:Nat)=>xs[(((xs.size:Int)-1)+(m:Int) * -1).toNat]?)=((aO xs.size).map λk=>xs.size-1-k).filterMap (xs[·]?):=by
  rw [List.filterMap_map]
  congr 1
  funext m
  show xs[(((xs.size:Int)-1)+(m:Int) * -1).toNat]? = xs[xs.size-1-m]?
  congr 1
  omega
 rw [e,krv_range,List.filterMap_reverse,krv_all]
theorem vj {t sl:Addr}{items:Array ae}{v3:ae}{Q:ae->Shared->Prop}(ht:IsTup s.heap t items) (hs:s.heap.IsSliceOf sl .none .none v3) (pk:nW v3 (some (-1)))
  (h:Q (.ref s.heap.objs.size) { s with heap:=s.heap.push { cls:=.type "tuple",data:=.seq items.toList.reverse.toArray } }) (hsz:items.size<=sizeLine):ay (aA prog w) A (iI (.ref t) (.ref sl)) Q E s:=by
 have htake:sizeOk (.seq items.toList.reverse.toArray):=by
  show items.toList.reverse.toArray.size<=sizeLine
  rw [aw,fG,bI]
  exact hsz
 obtain ⟨os,hos,hcs,hds⟩:=id hs
 have hTs:s.TypeIs (.ref sl) "slice":=⟨os,hos,hcs⟩
 unfold iI
 try with_reducible refine bO ?_
 first | refine ah (wpAny_pure ?_) | skip
 refine ah (wpAny_sequenceKey ht.typeIs ⋯ ?_)
 refine ah (wpAny_callSpecial?_slot (name:=ag "__getitem__") ht.typeIs eS
  (ir eS ht.typeIs entry_tuple_getitem ?_ (args_tuple_getitem _ _)))
 show ay _ _ (Builtin.Tuple.tupleItemsOf (.ref t) >>= _) _ _ s
 refine ah (tupleItemsOf_ ht ?_)
 refine ah (mD hTs ?_)
 rw [if_pos ⋯]
 refine ah (vX hs pk ?_)
 show ay _ _ (if (((items.size:Int)-1) == 0 && (-1:Int) == 1 && items.size == items.size)=true then _ else _) _ _ s
 rw [if_neg (by simp),Ye]
 first
  | exact ah (m:=cW _) (cv (wpAny_pure ⟨_,rfl,wpAny_pure h⟩) htake)
  | exact ah (m:=cW _) (cv (ah (wpAny_pure (wpAny_pure ⟨_,rfl,wpAny_pure h⟩))) htake)
  | exact ah (ah (m:=cW _) (cv (wpAny_pure (wpAny_pure ⟨_,rfl,wpAny_pure h⟩)) htake))
  | exact ah (ah (m:=cW _) (cv (wpAny_pure ⟨_,rfl,wpAny_pure h⟩) htake))
end
section
variable {X:Cx}{e:Expr}{te:TE}{pos p2 p3 p4:Pos}{j3:Nat}
def UH (K:ai) (te:TE):TE:=λσ H Q=>te σ H λx H2=>∃a xs,x = .ref a/\SqT K H2 a xs/\New H2 (.tup xs.reverse) Q
def UY (K:ai) (te:TE):TE:=λσ H Q=>te σ H λx H2=>∃a xs,x = .ref a/\SqL K H2 a xs/\New H2 (.lst xs.reverse) Q
theorem Yx (K:ai) (he:PE X e te) (hK:X.K=K:=by rfl):PE X (.Subscript e (.Slice none none (some (.UnaryOp .USub (.Constant (.int 1) j3 p3) p4)) p2) pos) (UH K te):=by
 subst hK
 intro pins s σ H Q I h
 refine iJ (thn (he pins s σ H _ I h) λv s1 ⟨x,H1,I1,r1,q1⟩=>?_)
 refine mU ?_
 rw [i8]
 refine wpAny_pure ?_
 refine wpAny_pure ?_
 rw [lO]
 obtain ⟨a,xs,rfl,hx,q⟩:=q1
 refine thn (uK yL j6 pins s1 σ H1 (λy H2=>y = .int (-1)/\H2=H1) I1 ⟨_,rfl,rfl,rfl⟩) λu s3 ⟨y,H3,I3,ry,ey,eH⟩=>?_
 subst ey eH
 obtain ⟨tk,rfl⟩:=ry
 cases r1
 have I4:Inv X pins σ H3 { s3 with heap:=s3.heap.push { cls:=.type "slice",data:=.fields #[.none,.none,.int (-1) tk] } }:=I3.kept (t':=s3.toks) λb ob q=>aj _ q
 obtain ⟨its,r,ht,hz⟩:=I4.tuple hx
 have hlen:its.toArray.size=xs.length:=by rw [aw];exact r.length.symm
 show ay (aA X.prog X.w) X.A (fg e (.Slice none none (some (.UnaryOp .USub (.Constant (.int 1) j3 p3) p4)) p2) (.ref a) (.ref s3.heap.objs.size)) (EP X pins σ Q) X.xe { s3 with heap:=s3.heap.push { cls:=.type "slice",data:=.fields #[.none,.none,.int (-1) tk] } }
 refine oV (ops:=[.ref a,.ref s3.heap.objs.size]) ht.typeIs PyProof.Rows.slot_tuple_getitem.lookup ?_ (by with_unfolding_all rfl)
 refine vj ht (fR ..) (.int _ _) ?_ (by rw [hlen];exact hz)
 have hf:=I4.hok.fresh (ao _)
 refine ⟨.ref _,_,I4.laid (t':=s3.toks) (o:=.tup xs.reverse) (λb ob q=>aj _ q) (ao _) ?_,rfl,q.at _ hf⟩
 exact ⟨by rw [fG];exact hz,_,r.reverse,IsTup.new _ _⟩
theorem Yo (K:ai) (he:PE X e te) (hK:X.K=K:=by rfl):PE X (.Subscript e (.Slice none none (some (.UnaryOp .USub (.Constant (.int 1) j3 p3) p4)) p2) pos) (UY K te):=by
 subst hK
 intro pins s σ H Q I h
 refine iJ (thn (he pins s σ H _ I h) λv s1 ⟨x,H1,I1,r1,q1⟩=>?_)
 refine mU ?_
 rw [i8]
 refine wpAny_pure ?_
 refine wpAny_pure ?_
 rw [lO]
 obtain ⟨a,xs,rfl,hx,q⟩:=q1
 refine thn (uK yL j6 pins s1 σ H1 (λy H2=>y = .int (-1)/\H2=H1) I1 ⟨_,rfl,rfl,rfl⟩) λu s3 ⟨y,H3,I3,ry,ey,eH⟩=>?_
 subst ey eH
 obtain ⟨tk,rfl⟩:=ry
 cases r1
 have I4:Inv X pins σ H3 { s3 with heap:=s3.heap.push { cls:=.type "slice",data:=.fields #[.none,.none,.int (-1) tk] } }:=I3.kept (t':=s3.toks) λb ob q=>aj _ q
 obtain ⟨its,r,ht,hz⟩:=I4.list hx
 have hlen:its.length=xs.length:=r.length.symm
 show ay (aA X.prog X.w) X.A (fg e (.Slice none none (some (.UnaryOp .USub (.Constant (.int 1) j3 p3) p4)) p2) (.ref a) (.ref s3.heap.objs.size)) (EP X pins σ Q) X.xe { s3 with heap:=s3.heap.push { cls:=.type "slice",data:=.fields #[.none,.none,.int (-1) tk] } }
 refine oV (ops:=[.ref a,.ref s3.heap.objs.size]) ht.isList.typeIs slot_list_getitem.lookup ?_ (by with_unfolding_all rfl)
 refine i9 ht.isList (fR ..) .none .none (.int _ _) ⋯ ?_ (by rw [aw];omega)
 rw [krv_pick]
 have hf:=I4.hok.fresh (ao _)
 refine ⟨.ref _,_,I4.laid (t':=s3.toks) (o:=.lst xs.reverse) (λb ob q=>aj _ q) (ao _) ?_,rfl,q.at _ hf⟩
 exact ⟨by rw [fG];exact hz,_,0,r.reverse,aD _ rfl⟩
end
theorem SqL.extT {K:ai}{Pt a:Addr}{H H':Hp}{xs:List V}{ps:Array ae}(hp:H Pt=some (.tbl ps)) (x:Ext Pt H H') (h:SqL K H a xs):SqL K H' a xs:=by
 rcases h with (h | ⟨o,h⟩) | h
 ·exact .inl (.inl (x _ _ h (jh h hp (by intro z;cases z))))
 ·exact .inl (.inr ⟨o,x _ _ h (jh h hp (by intro z;cases z))⟩)
 ·exact .inr h
section
variable {X:Cx}{e body:Expr}{ta:TA}{tb:TE}{params:Arguments}{scope:Scope}{lpos kpos p pos:Pos}{N:List Str}{x:Str}{c Pt:Addr}{k:Nat}
def Vz (K:ai) (Pt:Addr) (lpos:Pos) (qual:Str) (N:List Str) (ta:TA) (tb:TE):TE:=λσ H Q=>ta σ H λxs H1=>Tab H1 Pt lpos qual/\∃(p:Addr) (vs:List V) (keyf:Nat->List Int),xs=[.ref p]/\SqL K H1 p vs/\vs.length<64/\(∀i,i<vs.length->keyf i≠[]) /\
 (∀H2,Ext Pt H1 H2->∀i v,vs[i]? = some v->tb (start N [v]) H2 λkv H3=>jn H2 H3/\∃q,kv = .ref q/\H3 q=some (.tup ((keyf i).map V.int))) /\
 ∀l H2 out,H1 l=none->H2 l=some (.lst out)->Ext Pt H1 H2->Tab H2 Pt lpos qual->vH uu keyf vs out->Q (.ref l) H2
theorem JS (hg:Gl X "sorted") (hm:X.mg "sorted" = none) (ha:PA X [e] ta) (hcode:X.env.code = .ref c) (CH:CodeHd X.base c Pt) (hB:Bm X.mg X.base) (hr:Room (k+3) X.A) (S:FnScope N [x] scope)
  (hb:∀pm c ctv u,c5 (vb (X.env.qual ++ "<lambda>") params body scope pm c ctv) ⟨[u],[]⟩=pure [(x,u)])
  (hbody:∀f c' s H,PE (yO CX0 X.prog X.w X.K X.mg X.base N (X.env.qual ++ "<lambda>") scope f (.ref c') X.A.in1.in1 X.stack s H E0).nox body tb)
  (hcl:lY scope X.env=pure []:=by rfl) (hdef:defaultsOf params X.env=([],[]):=by rfl)
  (he:ck pos (aK [e] X.env)=(false,eval e X.env)::ck pos (aK [] X.env):=by rfl) (hplain:(ck pos (aK [e] X.env)).any (·.1)=false:=by rfl) :
  PE X (.Call (.Name "sorted" p) [e] [⟨some (ag "key"),.Lambda params body scope lpos,kpos⟩] pos) (Vz X.K Pt lpos (X.env.qual ++ "<lambda>") N ta tb):=by
 intro pins s σ H Q I h
 refine cJ (y8 I hg hm mY ?_ ⋯ ⋯)
 refine callWith_kw (thn (ha pos pins s σ H _ I h) λus s1 ⟨vs,H1,I1,r,q⟩=>?_) he hplain
 show ay _ _ (evalAll ((do let v <- eval (.Lambda params body scope lpos) X.env;eE pos;pure v)::[])) _ _ s1
 obtain ⟨T,a,xs,keyf,e1,hx,h64,hne,hkey,hq⟩:=q
 subst e1
 obtain ⟨u0,rfl,ru⟩:=zt r
 cases ru
 obtain ⟨ps0,hPt⟩:=T.ne
 refine wpAny_evalAll_cons (ah (ZL I1 hcode CH hB hcl hdef T λf H2 s2 pm c' ctv I2 hf hf2 hc2 X2 T2=>ah (cH (wpAny_pure (wpAny_evalAll_nil ?_)))))
 show ay _ _ (call (.builtin "sorted") [.ref a] [(ag "key",.ref f)]) _ _ s2
 refine JI I2 (SqL.extT hPt X2 hx) h64 hne (λi v hv pins' s' H' u I' sm ru=>?_) λl H3 out s' I3 hl hl3 sm hs=>?_
 ·have X3:Ext Pt H1 H':=X2.trans (Ext.of_same sm)
  obtain ⟨ho,_⟩:=I'.hok f _ (sm _ _ hf2)
  obtain ⟨hcd,_⟩:=I'.hok c' _ (sm _ _ hc2)
  refine iG (cU (YS (k:=k) ho hcd S (hr.in1.in1) I'.env0.in1.in1 hb ru (hbody f c' s' H') (hkey H' X3 i v hv)) λr s'' hq=>?_)
  cases r with
  | error e=>exact bp hq
  | ok fl =>
   cases fl with
   | ret u=>exact I'.after hq
   | next=>exact bp hq
   | brk=>exact bp hq
   | cont=>exact bp hq
 ·exact ⟨.ref l,H3,I3,rfl,hq l H3 out (X2.free hl (λz=>by rw [z] at hl;obtain ⟨p2,z2⟩:=T2.ne;rw [z2] at hl;cases hl)) hl3 (X2.trans (Ext.of_same sm)) (T2.same sm) hs⟩
end
end L2
end
section
namespace L2
open PySem.W
theorem XT {P:Program}{w:aX}{K:ai}{mg mb:Str->Option ae}{k:Nat}{fa a c Pt:Addr}{fd:FuncData}{x:Str}{sp:Sp}{s₁:Shared}{vs:List ae}{ns:List Int}
  (KX:K.In s₁.heap) (hns:s₁.heap.Ns mainGlobals mg) (hb:s₁.heap.Ns iD mb) (hbb:∀x:Str,x ≠ "__name__" -> mb x=eC x) (hlim:s₁.heap.NoLimit) (hg:s₁.gens = #[])
  (ha:s₁.heap.get? a=some { cls:=.type "list",data:=.seq vs.toArray }) (hi:cF vs ns) (hl:ns.length<=sizeLine) (hr:Room k lH)
  (hPt:s₁.heap.get? Pt=some (nI #[])) (hKP:K.lookup Pt=none) (CH:CodeHd s₁.heap c Pt) (hB:Bm mg s₁.heap)
  (F:∀base:Heap,K.In base->base.Ns mainGlobals mg->Bm mg base->FnOk P w K mg base CX0 k fa fd [x] sp) (hbind:∀(s:Shared) (u:ae),nu s fd ⟨[u],[]⟩ [(x,u)])
  (hsp:∀H:Hp,SqL K H a (ns.map V.int)->H Pt=some (.tbl #[])->sp [.ref a] H (λv _=>v = .bl true) λ_ _ _=>False) :
  cE (aA P w) lH (.call (.ref fa) ⟨[.ref a],[]⟩) (λr s'=>r = .ok (.ret (.bool true))/\OldK s₁.heap s'.heap/\s'.os=s₁.os/\ff s'.gens) s₁:=by
 have rv:=vT hi
 have lenV:=hi.length
 have core:∀H:Hp,H Pt=some (.tbl #[])->(∀b,b≠Pt->H b=none\/∃o xs,H b=some (.frz o (.lst xs)))->SqL K H a (ns.map V.int)->HOk P w H s₁.heap->(∀b,H b≠none->b=a\/b=Pt)->(H a≠none->K.lookup a=none) ->
   cE (aA P w) lH (.call (.ref fa) ⟨[.ref a],[]⟩) (λr s'=>r = .ok (.ret (.bool true))/\OldK s₁.heap s'.heap/\s'.os=s₁.os/\ff s'.gens) s₁:=by
  intro H hP hO hS hok hA hK
  have base_of:∀{b:Addr} {o:Obj},s₁.heap.get? b=some o->H b=none->(wT s₁.heap H).get? b=some o:=λe n=>Y6 e n
  have noA:∀{b:Addr} {o:Obj},s₁.heap.get? b=some o->(∀xs n,o.data≠.seq xs n)->(∀vs,o.data = .fields vs->o.cls≠.none)->H b=none:=λ{b o} e d1 d2=>by
   cases q:H b with
   | none=>rfl
   | some u =>
    rcases hA b (by rw [q];simp) with e' | e'
    ·subst e'
     rw [ha] at e;cases e
     exact absurd rfl (d1 _ _)
    ·subst e'
     rw [hPt] at e;cases e
     exact absurd rfl (d2 _ rfl)
  have noD:∀{b:Addr} {o:Obj} {es:Array DictEntry} {ep:Nat},s₁.heap.get? b=some o->o.data = .dict es ep->H b=none:=λ{b o es ep} e d =>
   noA e (λxs n z=>by rw [d] at z;cases z) (λvs z=>by rw [d] at z;cases z)
  have nsK:∀{b:Addr} {m:Str->Option ae},s₁.heap.Ns b m->(wT s₁.heap H).Ns b m:=λ{b m} ⟨o,es,ep,e,d,r⟩=>⟨o,es,ep,base_of e (noD e d),d,r⟩
  have hKb:K.In (wT s₁.heap H):=λb o e=>base_of (KX b o e) (by
   cases q:H b with
   | none=>rfl
   | some u =>
    rcases hA b (by rw [q];simp) with e' | e'
    ·subst e'
     rw [hK (by rw [q];simp)] at e;cases e
    ·subst e'
     rw [hKP] at e;cases e)
  have hBb:Bm mg (wT s₁.heap H):=by
   obtain ⟨bm,ob,b1,b2,b3,b4,b5,b6⟩:=hB
   exact ⟨bm,ob,b1,b2,base_of b3 (noA b3 (λxs n z=>by rw [b6] at z;cases z) λvs z=>by rw [b6] at z;cases z),b4,b5,b6⟩
  have hM:Mod K mg (wT s₁.heap H):=⟨hKb,nsK hns,⟨mb,nsK hb,hbb⟩,let ⟨mc,h1,h2⟩:=hlim;⟨mc,nsK h1,h2⟩⟩
  have e0:Env0 P w K mg (wT s₁.heap H) lH [] s₁ H:=⟨rfl,hM,λb o e=>V0 e,mi (Z1 _ _),trivial,λb hb=>absurd (show b∈([]:List Addr) from hb) (by simp),hok,.of_eq hg⟩
  refine cU ((F _ hKb (nsK hns) hBb).run lH [] s₁ H ⟨[.ref a],[]⟩ [.ref a] [.ref a] _ _ hr e0 (hbind s₁ (.ref a)) (.cons rfl .nil) (hsp H hS hP)) λr s' h=>?_
  cases r with
  | error e=>exact bp h
  | ok fl =>
   cases fl with
   | next=>exact bp h
   | brk=>exact bp h
   | cont=>exact bp h
   | ret u =>
    obtain ⟨v,H',os,bare,un,hok',r',q⟩:=h
    have q':v = .bl true:=q
    subst q'
    obtain rfl:u=iC true:=r'
    have kp:∀b o,b≠Pt->s₁.heap.get? b=some o->s'.heap.get? b=some o:=λb o hb e=>by
     cases q:H b with
     | none=>exact un.keep b o e q (by intro z;exact absurd (show b∈([]:List Addr) from z) (by simp)) (by simp)
     | some u =>
      rcases hO b hb with z | ⟨ob,xs,z⟩
      ·rw [q] at z;cases z
      ·have z2:=un.frzs b ob _ z
       obtain ⟨e1,_⟩:=hok b _ z
       obtain ⟨e2,_⟩:=hok' b _ z2
       rw [e] at e1;cases e1
       exact e2
    obtain ⟨more,hm⟩:=un.tbls Pt _ hP
    have hm':s'.heap.get? Pt=some { cls:=.none,data:=.fields (#[]++more) }:=hok' Pt _ hm
    refine ⟨rfl,⟨λb o e=>?_,λb o e=>?_⟩,os,bare⟩
    ·by_cases hb:b=Pt
     ·subst hb
      rw [hPt] at e;cases e
      exact .inr (.inl ⟨(CH.tab hPt).isCodeTable,rfl,#[],more,rfl,hm'⟩)
     ·exact .inl (kp b o hb e)
    ·by_cases hb:b=Pt
     ·subst hb;exact ⟨_,hm'⟩
     ·exact ⟨o,kp b o hb e⟩
 have haP:a≠Pt:=λz=>by rw [z,hPt] at ha;cases ha
 cases hk:K.lookup a with
 | some o =>
  have e:=KX a o hk
  rw [ha] at e
  cases e
  refine core (λb=>if b=Pt then some (.tbl #[]) else none) (if_pos rfl) (λb hb=>.inl (if_neg hb)) (.inr ⟨_,vs.toArray,_,hk,rfl,rfl,rfl,by rw [aw,lenV];exact hl,by simpa using rv⟩) (λb u z=>?_) (λb z=>?_) λz=>absurd (if_neg haP) z
  ·by_cases hb:b=Pt
   ·have z':=(if_pos hb).symm.trans z
    cases z'
    subst hb
    exact hPt
   ·have z':=(if_neg hb).symm.trans z
    cases z'
  ·by_cases hb:b=Pt
   ·exact .inr hb
   ·exact absurd (if_neg hb) z
 | none =>
  refine core (λb=>if b=Pt then some (.tbl #[]) else if b=a then some (.frz { cls:=.type "list",data:=.seq vs.toArray } (.lst (ns.map V.int))) else none) (if_pos rfl) (λb hb=>?_)
   (.inl (.inr ⟨{ cls:=.type "list",data:=.seq vs.toArray },(if_neg haP).trans (if_pos rfl)⟩)) (λb u z=>?_) (λb z=>?_) λ_=>hk
  ·by_cases hb2:b=a
   ·exact .inr ⟨_,_,(if_neg hb).trans (if_pos hb2)⟩
   ·exact .inl ((if_neg hb).trans (if_neg hb2))
  ·by_cases hb:b=Pt
   ·have z':=(if_pos hb).symm.trans z
    cases z'
    subst hb
    exact hPt
   ·by_cases hb2:b=a
    ·have z':=((if_neg hb).trans (if_pos hb2)).symm.trans z
     cases z'
     subst hb2
     exact ⟨ha,by rw [af];exact hl,vs,_,rv,ha⟩
    ·have z':=((if_neg hb).trans (if_neg hb2)).symm.trans z
     cases z'
  ·by_cases hb:b=Pt
   ·exact .inr hb
   ·by_cases hb2:b=a
    ·exact .inl hb2
    ·exact absurd ((if_neg hb).trans (if_neg hb2)) z
def JR (K:ai) (Pt:Addr):Sp:=λvs H Q _=>∃(a:Addr) (ns:List Int),vs=[.ref a]/\SqL K H a (ns.map V.int)/\ns.length<=63/\H Pt=some (.tbl #[])/\∀H',Q (.bl true) H'
theorem YF {l:n9}{q:Program}{loose:List Str}{XP:(Str->Option ae)->Heap->Prop}{YP:aX->Heap->Prop}{d:DefRec}{K:nB->ai}(k:Nat) (c Pt:Addr) (hr:Room k lH) (hn:l.most=some 63) (hdf:d.params.defaults=[])
  (hY:∀(w:aX) (h:Heap),YP w h->(K w.params).In h/\h.get? Pt=some (nI #[])) (hKP:∀p:nB,(K p).lookup Pt=none) (hC:∀p:nB,codeHdIn (K p) c Pt=true)
  (F:∀(w:aX) (mg:Str->Option ae) (fa:Addr) (h:Heap),(K w.params).In h->h.Ns mainGlobals mg->mg d.name=some (.ref fa) ->
   ∃fd:FuncData,(∀(s:Shared) (u:ae),nu s fd ⟨[u],[]⟩ [("_law_script",u)])/\∀base:Heap,(K w.params).In base->base.Ns mainGlobals mg->Bm mg base->FnOk l.prog w (K w.params) mg base CX0 k fa fd ["_law_script"] (JR (K w.params) Pt)) :
  PySem.W.WalkO q loose XP YP l.row.toRowW d [] (λf vs=>PySem.call f vs):=by
 refine Att.attach_call hn hdf λw s₀ s₁ mg mb fa o pm cd doc a vs ns G Y ho hd hcd hmg hobj hints hlen hg=>?_
 obtain ⟨KX,hT⟩:=hY w _ Y
 obtain ⟨fd,hb,hF⟩:=F w mg fa _ KX G.T.g hmg
 exact XT (c:=c) KX G.T.g G.T.b G.T.builtins G.T.nolimit hg hobj hints (aG hlen ⋯) hr hT (hKP w.params) (codeHd_of_K KX (hC w.params)) G.T.bmain hF hb λH hS hP=>⟨a,ns,rfl,hS,hlen,hP,λ_=>rfl⟩
theorem Fun.okC {P:Program}{w:aX}{K:ai}{mg:Str->Option ae}{base:Heap}{x qual:Str}{st:Stmt}{f c:Addr}{oc:ae}{od an:Option Addr}{osl:Array (Option ae)}{kV doc pm ct:ae}{N ps:List Str}{k:Nat}{sp:Sp}
  (l:K.lookup f=some ⟨oc,od,.func (bw x qual (jP st) (jH st) (j8 st) .none kV doc pm an (.ref c) ct),osl⟩) (cd:c6 K (.ref c) qual=true) (S:FnScope N ps (j8 st)) (len:∀vs H Q E,sp vs H Q E->vs.length=ps.length)
  (hbody:∀(A:bg) (outer:List Env) (s:Shared) (H:Hp) (vs:List V) (Q:VK) (E:XK),Room k (A.deeper (i7 qual (j8 st) s.heap.objs.size f (.ref c)))->sp vs H Q E ->
   ∃t,PSs (yO CX0 P w K mg base N qual (j8 st) f (.ref c) A outer s H E).nox (jH st) t/\t { nx:=λ_ H'=>Q .non H',rt:=Q } (start N vs) H) :
  FnOk P w K mg base CX0 (k+1) f (bw x qual (jP st) (jH st) (j8 st) .none kV doc pm an (.ref c) ct) ps sp:=by
 refine ZJ l cd S len λA outer s H vs Q E hr hsp=>?_
 obtain ⟨t,h,q⟩:=hbody A outer s H vs Q E hr hsp
 exact ⟨t,h.nox,q⟩
theorem Cal.mkC {P:Program}{w:aX}{K:ai}{mg:Str->Option ae}{base:Heap}{k:Nat}{x:Str}{ps:List Str}{sp:Sp}{st:Stmt}{h:Heap}{f c:Addr}{oc:ae}{od an:Option Addr}{osl:Array (Option ae)}{kV doc pm ct:ae}
  (X:K.In h) (G:h.Ns mainGlobals mg) (a:aN K mainGlobals x=some (some (.ref f)))
  (l:K.lookup f=some ⟨oc,od,.func (bw x x (jP st) (jH st) (j8 st) .none kV doc pm an (.ref c) ct),osl⟩) (cd:c6 K (.ref c) x=true) (k':bD K (.ref f)=true)
  (hb:∀(kV doc pm:ae) (an:Option Addr) (cdv ct:ae) (us:List ae),us.length=ps.length->c5 (bw x x (jP st) (jH st) (j8 st) .none kV doc pm an cdv ct) ⟨us,[]⟩=pure (ps.zip us))
  (ok:FnOk P w K mg base CX0 k f (bw x x (jP st) (jH st) (j8 st) .none kV doc pm an (.ref c) ct) ps sp):Cal P w K mg base k x ps sp:=by
 have F:=yG (st:=st) l cd k'
 exact ⟨f,_,ok,F.binds hb,bf X G a,k'⟩
end L2
end
section
namespace L2
open PySem.W
def Ite (K:ai) (a:Addr):It :=
 ⟨λi H=>∃xs x,SqL K H a xs/\xs[i]? = some x,λi H v H'=>∃t x,v = .ref t/\H t=none/\H'=upd H t (.tup [.int i,x])/\∀xs,SqL K H a xs->xs[i]? = some x,λi H=>∃xs,SqL K H a xs/\xs.length<=i⟩
theorem XU {P:Program}{w:aX}{K:ai}{es:List Expr}{x1:Nat}{pos:Pos}(a e it:Addr) (hne:e≠it):Turn P w K (.Tuple es x1 pos) (Ite K a) [e,it] e (λi h=>∃old,IsEnum h e it i old/\h.IsListIter it a i) where
 mem:=by simp
 obj:=λi h ⟨old,st1,st2⟩ b hb=>by
  rcases List.mem_cons.mp hb with rfl | hb
  ·exact ⟨_,st1,λv z=>by
    have z':mS _=oI v:=z
    cases z'⟩
  ·have e:b=it:=by simpa using hb
   subst e
   obtain ⟨o,e,c,d⟩:=st2
   exact ⟨o,e,λv z=>by rw [d] at z;cases z⟩
 keep:=λi h h' ⟨old,st1,st2⟩ k=>⟨old,k e (by simp) _ st1,st2.at λo z=>k it (by simp) o z⟩
 item:=by
  intro X hP hw hK hc i pins s σ H E I hf st hg
  subst hP hw hK
  obtain ⟨old,st1,st2⟩:=st
  obtain ⟨xs,x,hq,hx⟩:=hg
  obtain ⟨its,rv,p,hz⟩:=I.list hq
  obtain ⟨u,hu,ru⟩:=rv.get hx
  obtain ⟨f0,f1,f2,f3,f4,f5⟩:=hf e (by simp)
  obtain ⟨g0,g1,g2,g3,g4,g5⟩:=hf it (by simp)
  have hn:H s.heap.objs.size=none:=I.hok.fresh (ao _)
  refine wpAny_pyNext_enum_item st1 st2 p.isList (x:=u) (by simpa using hu) hne λh' o1 o2 o3 o4 o5=>⟨_,rfl,?_⟩
  refine wpAny_letOwnedTupleGo_enum o1 λh2 q1 sb=>?_
  have hel:e<s.heap.objs.size:=ax st1
  have kk:∀b o,b≠e->b≠it->s.heap.get? b=some o->h2.get? b=some o:=λb o n1 n2 z=>(sb.2 b n1).trans (o5 b o n1 n2 z)
  have et:h2.get? s.heap.objs.size=some { cls:=.type "tuple",data:=.seq #[.int i s.toks,u] }:=(sb.2 _ (eF hel)).trans o3
  have tne:∀b o,H b=some o->b≠e/\b≠it/\b≠s.heap.objs.size:=λb o q=>⟨λz=>(by rw [z,f0] at q;cases q),λz=>(by rw [z,g0] at q;cases q),λz=>(by rw [z,hn] at q;cases q)⟩
  have getF:∀{b:Addr} {o:HO},H b=some o->upd H s.heap.objs.size (.tup [.int i,x]) b=some o:=λ{b o} q=>by rw [j5 (tne b o q).2.2];exact q
  have I1:Inv X pins σ (upd H s.heap.objs.size (.tup [.int i,x])) { s with heap:=h2,toks:=s.toks+1 }:=by
   refine I.step (g':=s.gens) (d':=s.drawn) (ch:=[e,it]) (λb hb=>?_) (λb o _ _ hc z _=>kk b o (λy=>hc (by simp [y])) (λy=>hc (by simp [y])) z) (λb o _ _ hc z _=>⟨o.slots,kk b o (λy=>hc (by simp [y])) (λy=>hc (by simp [y])) z⟩)
    (λb o hc z n=>by rw [j5 (aB (ax z))];exact n) (λb o hc z=>⟨o,kk b o (λy=>hc (by simp [y])) (λy=>hc (by simp [y])) z⟩) (λ_ _ q=>getF q) (λ_ _ _ q=>getF q) (λb ps q=>⟨#[],by rw [getF q];simp⟩) (λm hm=>?_) (λb v q=>?_) I.bare
   ·rcases List.mem_cons.mp hb with rfl | hb
    ·exact ⟨f3,f1,f4,f5⟩
    ·have e:b=it:=by simpa using hb
     subst e
     exact ⟨g3,g1,g4,g5⟩
   ·obtain ⟨o,es,ep,ho,r⟩:=hm
    exact ⟨o,es,ep,kk _ o (cY f1) (cY g1) ho,r⟩
   ·by_cases hb:b=s.heap.objs.size
    ·subst hb
     rw [j7] at q;cases q
     exact ⟨by show 2<=sizeLine;decide,[.int i s.toks,u],.cons ⟨_,rfl⟩ (.cons ru .nil),⟨_,et,rfl,0,rfl⟩⟩
    ·rw [j5 hb] at q
     refine (I.hok b v q).stay (λc o hc z=>kk c o ?_ ?_ z) (λ_ z=>getF z) λ_ _ z=>getF z
     ·rcases hc with z | z
      ·rw [z];exact (tne b v q).1
      ·exact (tne c _ z).1
     ·rcases hc with z | z
      ·rw [z];exact (tne b v q).2.1
      ·exact (tne c _ z).2.1
  have st2':h2.IsListIter it a (i+1):=o2.at λo z=>(sb.2 it (cY hne)).trans z
  refine ⟨.ref s.heap.objs.size,_,I1,rfl,⟨_,x,rfl,hn,rfl,λys hy=>by rw [I.list_inj hy hq];exact hx⟩,⟨u,?_,st2'⟩,λb hb=>?_⟩
  ·have:((i+1:Nat):Int)=(i:Int)+1:=by push_cast;rfl
   rw [this]
   exact q1
  ·rcases List.mem_cons.mp hb with rfl | hb
   ·rw [j5 (aB hel)];exact f0
   ·have e:b=it:=by simpa using hb
    subst e
    obtain ⟨o,z,_⟩:=st2
    rw [j5 (aB (ax z))];exact g0
 done:=by
  intro X hP hw hK hc i pins s σ H E I hf st hg
  subst hP hw hK
  obtain ⟨old,st1,st2⟩:=st
  obtain ⟨xs,hq,hx⟩:=hg
  obtain ⟨its,rv,p,hz⟩:=I.list hq
  obtain ⟨g0,g1,g2,g3,g4,g5⟩:=hf it (by simp)
  have hl:=rv.length
  exact wpAny_pyNext_enum_end (I.ok.hd hc) st1 st2 p.isList (by simp;omega) λh' eb=>⟨rfl,I.turned (t':=s.toks) (λb o hb e=>eb b o hb e) g0 g1 g3 g4 g5⟩
 self:=λ_ _ _ _ _ ⟨old,st1,_⟩ h=>mE st1 h
section
variable {X:Cx}
def We (K:ai) (ta:TA):TI:=λσ H R=>ta σ H λvs H1=>∃a,vs=[.ref a]/\(∃xs,SqL K H1 a xs)/\R (Ite K a) H1
theorem Xh {es:List Expr}{x1:Nat}{tpos:Pos}{l:Expr}{ta:TA}{p pos:Pos}(K:ai) (hg:Gl X "enumerate") (hm:X.mg "enumerate" = none) (ha:PA X [l] ta) (hs:aK [l] X.env=[(false,eval l X.env)]:=by rfl) (hK:X.K=K:=by rfl) :
  PI X (.Tuple es x1 tpos) (.Call (.Name "enumerate" p) [l] [] pos) (We K ta):=by
 subst hK
 intro pins s σ H R I h
 refine Call_ (y8 I hg hm boot_enumerate (c0 (thn (ha pos pins s σ H _ I h) λus s1 ⟨vs,H1,I1,r1,q1⟩=>?_) hs rfl))
 obtain ⟨a,e,⟨xs,hq⟩,q⟩:=q1
 subst e
 obtain ⟨u,rfl,ru⟩:=zt r1
 cases ru
 obtain ⟨its,rv,pl,hz⟩:=I1.list hq
 refine call_enumerate_list pl.isList λh' i1 i2 i3 kk=>?_
 refine mE i1 ?_
 have I2:Inv X pins σ H1 { s1 with heap:=h',toks:=s1.toks }:=I1.kept kk
 refine ⟨_,[s1.heap.objs.size+1,s1.heap.objs.size],_,_,H1,rfl,I2,XU a _ _ (by exact Nat.succ_ne_self _),⟨.none,i1,i2⟩,λb hb=>?_,q⟩
 rcases List.mem_cons.mp hb with rfl | hb
 ·exact I1.fpOk (dX _) (I1.hok.fresh (dX _))
 ·have e:b=s1.heap.objs.size:=by simpa using hb
  subst e
  exact I1.fpOk (ao _) (I1.hok.fresh (ao _))
end
theorem XM {K:ai}{a acc:Addr}{xs:List V}{g:TG}{ti:TT}{te:TE}{R:Hp->Prop}{σ:St}{H:Hp}(Pv:Nat->St->Hp->Prop) (h0:Pv 0 σ H) (hl:∀i σ H,i<=xs.length->Pv i σ H->SqL K H a xs)
  (hs:∀i x σ H t,xs[i]? = some x->Pv i σ H->H t=none->g (.ref t) σ (upd H t (.tup [.int i,x])) λσ3 H3=>ti σ3 H3 λok H4=>if ok=true then te σ3 H4 λv H5=>∃ys,H5 acc=some (.lst ys)/\ys.length<sizeLine/\Pv (i+1) σ3 (upd H5 acc (.lst (ys++[v]))) else Pv (i+1) σ3 H4)
  (hd:∀σ H,Pv xs.length σ H->R H) :
  ∃W:Nat->Nat->St->Hp->Prop,(∃m,W 0 m σ H)/\∀i m σ' H',W i m σ' H' ->
   ((Ite K a).stop i H'/\R H')\/((Ite K a).go i H'/\∃NX:St->Hp->Prop,(∀σ2 H2,NX σ2 H2->∃m',m'<m/\W (i+1) m' σ2 H2) /\
    ∀x H2,(Ite K a).yld i H' x H2->g x σ' H2 λσ3 H3=>ti σ3 H3 λok H4=>if ok=true then te σ3 H4 λv H5=>∃ys,H5 acc=some (.lst ys)/\ys.length<sizeLine/\NX σ3 (upd H5 acc (.lst (ys++[v]))) else NX σ3 H4):=by
 refine ⟨λi m σ H=>m=xs.length-i/\i<=xs.length/\Pv i σ H,⟨xs.length,by simp,aJ _,h0⟩,?_⟩
 rintro i m σ H ⟨rfl,hi,p⟩
 have q:=hl i σ H hi p
 by_cases hlt:i<xs.length
 ·refine .inr ⟨⟨xs,xs[i],q,by simp [hlt]⟩,Pv (i+1),λσ' H' p'=>⟨xs.length-(i+1),∅,rfl,hlt,p'⟩,λv H' y=>?_⟩
  obtain ⟨t,x,rfl,hn,rfl,y⟩:=y
  exact hs i x σ H t (y xs q) p hn
 ·have e:i=xs.length:=∅
  subst e
  exact .inl ⟨⟨xs,q,ao _⟩,hd σ H p⟩
theorem Zx {K:ai}{a:Addr}{xs:List V}{g:TG}{tb:TS}{D:Ends}{σ:St}{H:Hp}(Pv:Nat->St->Hp->Prop) (h0:Pv 0 σ H) (hl:∀i σ H,i<=xs.length->Pv i σ H->SqL K H a xs)
  (hs:∀i x σ H t,xs[i]? = some x->Pv i σ H->H t=none->g (.ref t) σ (upd H t (.tup [.int i,x])) λσ2 H2=>tb { D with nx:=Pv (i+1),ct:=Pv (i+1),bk:=D.nx } σ2 H2) (hd:∀σ H,Pv xs.length σ H->D.nx σ H) :
  ∃W:Nat->Nat->St->Hp->Prop,(∃m,W 0 m σ H)/\∀i m σ H,W i m σ H ->
   ((Ite K a).stop i H/\D.nx σ H)\/((Ite K a).go i H/\∃N:St->Hp->Prop,(∀σ' H',N σ' H'->∃m',m'<m/\W (i+1) m' σ' H')/\∀x H',(Ite K a).yld i H x H'->g x σ H' λσ2 H2=>tb { D with nx:=N,ct:=N,bk:=D.nx } σ2 H2):=by
 refine ⟨λi m σ H=>m=xs.length-i/\i<=xs.length/\Pv i σ H,⟨xs.length,by simp,aJ _,h0⟩,?_⟩
 rintro i m σ H ⟨rfl,hi,p⟩
 have q:=hl i σ H hi p
 by_cases hlt:i<xs.length
 ·refine .inr ⟨⟨xs,xs[i],q,by simp [hlt]⟩,Pv (i+1),λσ' H' p'=>⟨xs.length-(i+1),∅,rfl,hlt,p'⟩,λv H' y=>?_⟩
  obtain ⟨t,x,rfl,hn,rfl,y⟩:=y
  exact hs i x σ H t (y xs q) p hn
 ·have e:i=xs.length:=∅
  subst e
  exact .inl ⟨⟨xs,q,ao _⟩,hd σ H p⟩
end L2
end
section
namespace L2
open PySem.W
theorem kF:∀(l:List Int),(∀n∈l,0<=n/\n<=2 ^ 20)->0<=l.sum/\l.sum<=2 ^ 20*l.length
 | [],_=>by simp
 | n::l,h=>by
  have ih:=kF l λm hm=>h m (az _ hm)
  have h0:=h n aC
  rw [lQ,ba]
  constructor
  ·omega
  ·push_cast
   omega
section
variable {X:Cx}
theorem Jm (K:ai) (hc:X.calm=true) (hK:X.K=K:=by rfl):qA X (.builtin "sum") (λxs H Q=>∃(p:Addr) (ns:List Int),xs=[.ref p]/\SqL K H p (ns.map V.int)/\ns.length<=1000/\(∀n∈ns,0<=n/\n<=2 ^ 20)/\Q (.int ns.sum) H):=by
 subst hK
 intro pins s σ H xs us Q I r h
 obtain ⟨p,ns,rfl,hq,hl,hb,q⟩:=h
 obtain ⟨u,rfl,ru⟩:=zt r
 cases ru
 obtain ⟨its,rv,pl,hz⟩:=I.list hq
 have hI:=xI rv
 have hlen:=hI.length
 have hne:p≠s.heap.objs.size:=by
  obtain ⟨o,n,e,_⟩:=id pl
  exact aB (ax e)
 refine call_sum_walk (eG pl.isList ?_)
 refine ⟨s.heap.objs.size,_,_,_,_,_,λi=>ns.getD i 0,rfl,Walks.list (show (X.A.in1).handled=none from I.ok.hd hc) s.heap.objs.size p hne its.toArray,⟨⟨_,aD _ rfl,rfl,rfl⟩,pl.isList.at λo e=>aj _ e⟩,?_,?_,?_,?_⟩
 ·intro b hb'
  have hps:p<s.heap.objs.size:=by
   obtain ⟨o,n,e,_⟩:=id pl
   exact ax e
  show b<(s.heap.push _).objs.size
  rw [eJ]
  rcases List.mem_cons.mp hb' with rfl | hb'
  ·exact fc _
  ·have e:b=p:=by simpa using hb'
   subst e
   exact bW hps
 ·intro i v hP
  have hP':its[i]? = some v:=by simpa using hP
  have hi:i<its.length:=(List.getElem?_eq_some_iff.mp hP').1
  obtain ⟨t,e⟩:=kO hI hi
  rw [e] at hP'
  refine ⟨t,?_⟩
  show v=ib (ns.getD i 0) t
  rw [ak,aa ∅]
  exact (aR hP').symm
 ·intro j hj
  have hj':j<ns.length:=by
   have:its.toArray.size=its.length:=by simp
   omega
  constructor
  ·show InLong (ns.getD j 0)
   rw [ak,aa hj']
   have:=hb _ (bH hj')
   show -(2 ^ 63)<=ns[j]/\ns[j]<2 ^ 63
   omega
  ·rw [preSum_getD]
   have:=kF (ns.take (j+1)) λn hn=>hb n (List.mem_of_mem_take hn)
   have hl2:(ns.take (j+1)).length<=1000:=by rw [aW];omega
   show -(2 ^ 63)<=_/\_<2 ^ 63
   omega
 ·intro h' tk t' hk
  rw [preSum_getD,cG (by simp;omega)]
  refine ⟨.int ns.sum,H,I.kept (t':=tk) λb o eo=>hk b o (by
   intro z
   have:=List.mem_singleton.mp z
   subst this
   exact absurd (ax eo) (bX _)) (aj _ eo),⟨t',rfl⟩,q⟩
theorem xQ (K:ai) (h:X.K=K:=by rfl):qA X (.type "tuple") (λxs H Q=>∃p ys,xs=[.ref p]/\SqL K H p ys/\New H (.tup ys) Q):=by
 subst h
 exact wS.weak λ_ _ _ ⟨p,ys,h1,h2,q⟩=>⟨p,ys,h1,.inl ⟨h2,q.at⟩⟩
end
end L2
end
section
namespace L2
open PySem.W
structure Nb2 (mg:Str->Option ae):Prop extends Nb mg where
 b_enumerate:mg "enumerate" = none
 b_sorted:mg "sorted" = none
 b_sum:mg "sum" = none
abbrev Rch:=Int×List Int
def tos (rs:List Rch):List Int:=rs.map (·.1)
def xB (rs:List Rch) (r:Nat):Int:=(rs.getD r (-1,[])).1
def zo (rs:List Rch) (r:Nat):List Int:=(rs.getD r (-1,[])).2
def xo (i:Nat) (t:Int):Bool:=if i=0 then decide (t = -1) else decide (0<=t/\t<i)
def okR (i:Nat) (r:Rch):Bool:=xo i r.1 && decide (1<=(r.2.length:Int)/\(r.2.length:Int)<=12) && r.2.all λx=>decide (0<=x/\x<=99)
def vQ (rs:List Rch):Bool:=(aO rs.length).all λi=>okR i (rs.getD i (-1,[]))
def x4 (rs:List Rch):Prop:=∀i,i<rs.length->xo i (xB rs i)=true
def jG (rs:List Rch) (h:Nat):Bool:=!decide ((h:Int)∈tos rs)
def jm (rs:List Rch):List Nat:=(aO rs.length).filter (jG rs)
def yy (rs:List Rch):Nat->Nat->List Int
 | 0,_=>[]
 | f+1,r=>(r:Int)::(if xB rs r<0 then [] else yy rs f (xB rs r).toNat)
def qk (rs:List Rch) (r:Nat):List Int:=yy rs (r+1) r
def jx (rs:List Rch) (way:List Int):Int:=(way.map λr=>((zo rs r.toNat).length:Int)).sum
def xZ (rs:List Rch):Bool:=decide (1<=(rs.length:Int)/\(rs.length:Int)<=8) && (vQ rs && (decide (((jm rs).length:Int)<=6) && (jm rs).all λh=>decide (jx rs (qk rs h)<=30)))
theorem uN {i:Nat}{t:Int}(h:xo i t=true):t<i/\(-1<=t)/\(t<0->i=0):=by
 unfold xo at h
 by_cases hi:i=0
 ·rw [if_pos hi] at h
  have:=of_decide_eq_true h
  omega
 ·rw [if_neg hi] at h
  have:=of_decide_eq_true h
  omega
theorem XA {i:Nat}{r:Rch}(h:okR i r=true):xo i r.1=true:=by
 unfold okR at h
 rw [bh,bh] at h
 exact h.1.1
theorem gz {rs:List Rch}(h:vQ rs=true) {i:Nat}{r:Rch}(hr:rs[i]? = some r):okR i r=true:=by
 unfold vQ at h
 rw [bG] at h
 have hi:=(List.getElem?_eq_some_iff.mp hr).1
 have:=h i (List.mem_range.mpr hi)
 rw [ak,hr] at this
 exact this
theorem jV {rs:List Rch}(h:vQ rs=true):x4 rs:=λi hi=>by
 have:=XA (gz h (aa hi))
 unfold xB
 rw [ak,aa hi]
 exact this
theorem kU {rs:List Rch}{i:Nat}{r:Rch}(h:rs[i]? = some r):xB rs i=r.1:=by
 unfold xB
 rw [ak,h]
 rfl
theorem hW {rs:List Rch}{i:Nat}{r:Rch}(h:rs[i]? = some r):zo rs i=r.2:=by
 unfold zo
 rw [ak,h]
 rfl
theorem x4.lt {rs:List Rch}(L:x4 rs) {r:Nat}(hr:r<rs.length):xB rs r<r:=(uN (L r hr)).1
theorem kH {rs:List Rch}(L:x4 rs):∀(f g r:Nat),r<rs.length->r<f->r<g->yy rs f r=yy rs g r
 | 0,_,_,_,h,_=>∅
 | _+1,0,_,_,_,h=>∅
 | f+1,g+1,r,hr,h1,h2=>by
  unfold yy
  by_cases ht:xB rs r<0
  ·rw [if_pos ht,if_pos ht]
  ·rw [if_neg ht,if_neg ht]
   have hl:=L.lt hr
   rw [kH L f g (xB rs r).toNat ∅ ∅ ∅]
theorem xX {rs:List Rch}(L:x4 rs) {r:Nat}(hr:r<rs.length):qk rs r=(r:Int)::(if xB rs r<0 then [] else qk rs (xB rs r).toNat):=by
 unfold qk
 rw [yy]
 by_cases ht:xB rs r<0
 ·rw [if_pos ht,if_pos ht]
 ·rw [if_neg ht,if_neg ht]
  have hl:=L.lt hr
  rw [kH L r ((xB rs r).toNat+1) (xB rs r).toNat ∅ ∅ ∅]
theorem V1 {rs:List Rch}(r:Nat):qk rs r≠[]:=by unfold qk yy;exact λz=>nomatch z
theorem vF {rs:List Rch}(L:x4 rs):∀(r:Nat),r<rs.length->(qk rs r).length<=r+1
 | r,hr=>by
  rw [xX L hr]
  by_cases ht:xB rs r<0
  ·rw [if_pos ht];simp
  ·rw [if_neg ht]
   have hl:=L.lt hr
   have:=vF L (xB rs r).toNat ∅
   rw [ba]
   omega
 termination_by r=>r
 decreasing_by omega
theorem xy {rs:List Rch}(L:x4 rs):∀(r:Nat),r<rs.length->∀x∈qk rs r,0<=x/\x<rs.length
 | r,hr,x,hx=>by
  rw [xX L hr] at hx
  rcases List.mem_cons.mp hx with rfl | hx
  ·omega
  ·by_cases ht:xB rs r<0
   ·rw [if_pos ht] at hx;cases hx
   ·rw [if_neg ht] at hx
    have hl:=L.lt hr
    exact xy L (xB rs r).toNat ∅ x hx
 termination_by r=>r
 decreasing_by omega
theorem xf {rs:List Rch}{h:Nat}(hh:h∈jm rs):h<rs.length:=by
 have:=(List.mem_filter.mp hh).1
 exact List.mem_range.mp this
theorem qV (rs:List Rch) (r:Int) (way:List Int):jx rs (r::way)=((zo rs r.toNat).length:Int)+jx rs way:=by
 unfold jx
 rw [aH,lQ]
theorem Y5 {α:Type}{p:α->Bool}{l l':List α}(h:l.Perm l'):l.all p=l'.all p:=by
 rw [di,bG,bG]
 exact ⟨λz x hx=>z x (h.mem_iff.mpr hx),λz x hx=>z x (h.mem_iff.mp hx)⟩
def jQ (rs:List Rch) (ws:List (List Int)):Prop:=ws.Perm ((jm rs).map (qk rs))/\(ws.map cb).Pairwise uu.kle
theorem jQ.length {rs:List Rch}{ws:List (List Int)}(h:jQ rs ws):ws.length=(jm rs).length:=by rw [h.1.length_eq,af]
theorem jQ.mem {rs:List Rch}{ws:List (List Int)}(h:jQ rs ws) {w:List Int}(hw:w∈ws):∃x∈jm rs,w=qk rs x:=by
 obtain ⟨x,hx,e⟩:=List.mem_map.mp (h.1.mem_iff.mp hw)
 exact ⟨x,hx,e.symm⟩
theorem jQ.all {rs:List Rch}{ws:List (List Int)}(h:jQ rs ws):(ws.map λw=>decide (jx rs w<=30)).all (λb=>b)=(jm rs).all λx=>decide (jx rs (qk rs x)<=30):=by
 rw [eP,Y5 h.1,eP]
 rfl
theorem zO {O:KeyOrd}:∀{l l':List O.α},l.Perm l'->l.Pairwise O.kle->l'.Pairwise O.kle->l=l'
 | [],l',h,_,_=>(List.nil_perm.mp h).symm
 | x::l,[],h,_,_=>by have:=h.length_eq;simp at this
 | x::l,y::l',h,h1,h2=>by
  have hx:=(List.pairwise_cons.mp h1)
  have hy:=(List.pairwise_cons.mp h2)
  have e:x=y:=by
   have m1:x∈y::l':=h.mem_iff.mp aC
   have m2:y∈x::l:=h.mem_iff.mpr aC
   rcases List.mem_cons.mp m1 with z | z
   ·exact z
   ·rcases List.mem_cons.mp m2 with z2 | z2
    ·exact z2.symm
    ·exact fF (hx.1 y z2) (hy.1 x z)
  subst e
  rw [zO (ma h) hx.2 hy.2]
theorem jQ.unique {rs:List Rch}{ws ws':List (List Int)}(h:jQ rs ws) (h':jQ rs ws'):ws=ws':=by
 have p:(ws.map cb).Perm (ws'.map cb):=(h.1.trans h'.1.symm).map _
 have e:=zO (O:=uu) p h.2 h'.2
 have e2:=congrArg (List.map cb) e
 rw [bB,bB,show (cb ∘ cb:List Int->List Int)=id from funext λx=>dC x,lA,lA] at e2
 exact e2
theorem JG (rs:List Rch) (t:Int) (hs:List Int):tos (rs++[(t,hs)])=tos rs++[t]:=by unfold tos;rw [aE];rfl
theorem vR {rs:List Rch}{x d:Rch}{i:Nat}(h:i<rs.length):(rs++[x]).getD i d=rs.getD i d:=by
 rw [ak,ak,cg h]
theorem xc {rs:List Rch}{x d:Rch}:(rs++[x]).getD rs.length d=x:=by
 rw [ak,bM (ao _),Nat.sub_self]
 rfl
theorem kh {rs:List Rch}{x:Rch}(h:vQ rs=true) (hx:okR rs.length x=true):vQ (rs++[x])=true:=by
 unfold vQ at h ⊢
 rw [bG] at h ⊢
 intro i hi
 have hi':i<rs.length+1:=by have:=List.mem_range.mp hi;rw [av,aU] at this;exact this
 by_cases hlt:i<rs.length
 ·rw [vR hlt];exact h i (List.mem_range.mpr hlt)
 ·have e:i=rs.length:=∅
  subst e
  rw [xc];exact hx
theorem wn {rs:List Rch}{x:Rch}(L:x4 rs):∀(f r:Nat),r<rs.length->yy (rs++[x]) f r=yy rs f r
 | 0,_,_=>rfl
 | f+1,r,hr=>by
  have e:xB (rs++[x]) r=xB rs r:=by unfold xB;rw [vR hr]
  unfold yy
  rw [e]
  by_cases ht:xB rs r<0
  ·rw [if_pos ht,if_pos ht]
  ·rw [if_neg ht,if_neg ht,wn L f _ (by have:=L.lt hr;omega)]
theorem yi {rs:List Rch}{x:Rch}(L:x4 rs) {r:Nat}(hr:r<rs.length):qk (rs++[x]) r=qk rs r:=wn L _ r hr
theorem xz {rs:List Rch}{x:Rch}:∀(way:List Int),(∀r∈way,0<=r/\r<rs.length)->jx (rs++[x]) way=jx rs way
 | [],_=>rfl
 | r::way,h=>by
  have h0:=h r aC
  rw [qV,qV,xz way λy hy=>h y (az _ hy)]
  congr 2
  unfold zo
  rw [vR ∅]
theorem Qa {rs:List Rch}(L:x4 rs) {t:Int}(h:t∈tos rs):t+1<rs.length:=by
 unfold tos at h
 obtain ⟨r,hr,rfl⟩:=List.mem_map.mp h
 obtain ⟨i,hi,e⟩:=List.mem_iff_getElem.mp hr
 have:=L.lt hi
 rw [kU (aa hi),e] at this
 omega
theorem Qm {rs:List Rch}{t:Int}{hs:List Int}(L:x4 rs) (h0:0<=t) (h1:t<rs.length) :
  (jm (rs++[(t,hs)])).length=if t∈tos rs then (jm rs).length+1 else (jm rs).length:=by
 unfold jm
 rw [av,aU,cR,cK,av]
 have e1:(ee (jG (rs++[(t,hs)])) [rs.length]).length=1:=by
  have:jG (rs++[(t,hs)]) rs.length=true:=by
   unfold jG
   rw [JG,decide_eq_false]
   ·rfl
   ·intro z
    rcases List.mem_append.mp z with z | z
    ·have:=Qa L z;omega
    ·have:(rs.length:Int)=t:=by simpa using z
     omega
  simp [this]
 rw [e1]
 have e2:∀h,jG (rs++[(t,hs)]) h=(jG rs h && !decide ((h:Int)=t)):=λh=>by
  unfold jG
  rw [JG]
  by_cases a:(h:Int)∈tos rs
  ·rw [decide_eq_true (fj _ a),decide_eq_true a];rfl
  ·rw [decide_eq_false a]
   by_cases b:(h:Int)=t
   ·rw [decide_eq_true (aF _ (by simp [b])),decide_eq_true b];rfl
   ·rw [decide_eq_false (λz=>(List.mem_append.mp z).elim a λy=>b (by simpa using y)),decide_eq_false b];rfl
 have e3:ee (jG (rs++[(t,hs)])) (aO rs.length)=ee (λh:Nat=>!decide ((h:Int)=t)) (ee (jG rs) (aO rs.length)):=by
  rw [List.filter_filter]
  congr 1
  funext h
  rw [e2,Bool.and_comm]
 rw [e3]
 have nd:(ee (jG rs) (aO rs.length)).Nodup:=List.Nodup.sublist List.filter_sublist List.nodup_range
 generalize hl:ee (jG rs) (aO rs.length)=l at nd
 have cnt:∀(l:List Nat),l.Nodup->(ee (λh:Nat=>!decide ((h:Int)=t)) l).length=if t.toNat∈l then l.length-1 else l.length:=by
  intro l
  induction l with
  | nil=>intro _;rfl
  | cons x l ih =>
   intro nd
   have nd':=List.nodup_cons.mp nd
   have ih:=ih nd'.2
   by_cases b:(x:Int)=t
   ·have hx:x=t.toNat:=∅
    rw [iu (by simp [b]),ih,if_neg (by rw [<- hx];exact nd'.1),if_pos (by rw [hx];exact aC)]
    simp
   ·have hx:t.toNat≠x:=∅
    rw [iz (by simp [b]),ba,ih]
    by_cases m:t.toNat∈l
    ·rw [if_pos m,if_pos (az _ m),ba]
     have:0<l.length:=eQ m
     omega
    ·rw [if_neg m,if_neg (λz=>(List.mem_cons.mp z).elim hx m)]
     simp
 rw [cnt l nd]
 have hm:t.toNat∈l↔¬t∈tos rs:=by
  rw [<- hl,List.mem_filter,List.mem_range]
  unfold jG
  have e:((t.toNat:Nat):Int)=t:=∅
  rw [e]
  constructor
  ·rintro ⟨_,z⟩ y
   rw [decide_eq_true y] at z
   cases z
  ·intro z
   exact ⟨∅,by rw [decide_eq_false z];rfl⟩
 by_cases m:t∈tos rs
 ·rw [if_pos m,if_neg (by rw [hm];exact λz=>z m)]
 ·rw [if_neg m,if_pos (by rw [hm];exact m)]
  have:0<l.length:=eQ (hm.mpr m)
  omega
structure Grown (rs:List Rch):Prop where
 ok:vQ rs=true
 heads:(jm rs).length<=6
 deep:∀i,i<rs.length->jx rs (qk rs i)<=30
theorem Grown.snoc {rs:List Rch}{t:Int}{hs:List Int}(G:Grown rs) (h0:0<=t) (h1:t<rs.length) (hx:okR rs.length (t,hs)=true) (hh:t∈tos rs->(jm rs).length<6) (hd:jx rs (qk rs t.toNat)+hs.length<=30):Grown (rs++[(t,hs)]):=by
 have L:=jV G.ok
 have ok':=kh G.ok hx
 refine ⟨ok',?_,λi hi=>?_⟩
 ·rw [Qm L h0 h1]
  split
  ·rename_i m;have:=hh m;omega
  ·exact G.heads
 ·rw [av,aU] at hi
  by_cases hlt:i<rs.length
  ·rw [yi L hlt,xz _ (xy L i hlt)]
   exact G.deep i hlt
  ·have e:i=rs.length:=∅
   subst e
   have L':=jV ok'
   have et:xB (rs++[(t,hs)]) rs.length=t:=by unfold xB;rw [xc]
   have eh:zo (rs++[(t,hs)]) rs.length=hs:=by unfold zo;rw [xc]
   rw [xX L' (by rw [av,aU];omega),qV,bK,eh,et,if_neg ∅,yi L ∅,xz _ (xy L _ ∅)]
   omega
theorem Grown.good {rs:List Rch}(G:Grown rs) (h1:1<=rs.length) (h8:rs.length<=8):xZ rs=true:=by
 unfold xZ
 rw [decide_eq_true (show 1<=(rs.length:Int)/\(rs.length:Int)<=8 by omega),G.ok,decide_eq_true (show ((jm rs).length:Int)<=6 by have:=G.heads;omega),dr,dr,dr,bG]
 intro h hh
 exact decide_eq_true (G.deep h (xf hh))
theorem Grown.deep_snoc {rs:List Rch}{t:Int}{hs:List Int}(G:Grown rs) (h0:0<=t) (h1:t<rs.length) (hx:okR rs.length (t,hs)=true):jx (rs++[(t,hs)]) (qk (rs++[(t,hs)]) rs.length)=jx rs (qk rs t.toNat)+hs.length:=by
 have L:=jV G.ok
 have L':=jV (kh G.ok hx)
 have et:xB (rs++[(t,hs)]) rs.length=t:=by unfold xB;rw [xc]
 have eh:zo (rs++[(t,hs)]) rs.length=hs:=by unfold zo;rw [xc]
 rw [xX L' (by rw [av,aU];omega),qV,bK,eh,et,if_neg ∅,yi L ∅,xz _ (xy L _ ∅)]
 omega
def ji (H H':Hp):Prop:=∀p xs,H p=some (.tup xs)->H' p=some (.tup xs)
theorem ji.same {H H':Hp}(s:jn H H'):ji H H':=λ_ _ h=>s _ _ h
theorem ji.trans {H H1 H2:Hp}(a:ji H H1) (b:ji H1 H2):ji H H2:=λp xs h=>b p xs (a p xs h)
theorem ji.ext {b:Addr}{H H':Hp}(e:Ext b H H') (h:∀xs,H b≠some (.tup xs)):ji H H':=λp xs q=>e _ _ q λz=>h xs (z ▸ q)
theorem ji.lst {b:Addr}{H H':Hp}{xs:List V}(e:Ext b H H') (h:H b=some (.lst xs)):ji H H':=.ext e λys z=>by rw [h] at z;cases z
theorem ji.new {b:Addr}{H H':Hp}(e:Ext b H H') (h:H b=none):ji H H':=.ext e λys z=>by rw [h] at z;cases z
theorem ji.tbl {b:Addr}{H H':Hp}{ps:Array ae}(e:Ext b H H') (h:H b=some (.tbl ps)):ji H H':=.ext e λys z=>by rw [h] at z;cases z
def gH (H:Hp) (v:V) (r:Rch):Prop:=∃p g,v=V.ref p/\H p=some (.tup [.int r.1,.ref g])/\H g=some (.tup (r.2.map V.int))
def jN (H:Hp) (vs:List V) (rs:List Rch):Prop:=cf (gH H) vs rs
theorem gH.keep {H H':Hp}{v:V}{r:Rch}(k:ji H H') (h:gH H v r):gH H' v r:=by
 obtain ⟨p,g,e,h1,h2⟩:=h
 exact ⟨p,g,e,k _ _ h1,k _ _ h2⟩
theorem jN.keep {H H':Hp}{vs:List V}{rs:List Rch}(k:ji H H') (h:jN H vs rs):jN H' vs rs:=Paired.mapP h λ_ _ z=>z.keep k
theorem jN.length {H:Hp}{vs:List V}{rs:List Rch}(h:jN H vs rs):vs.length=rs.length:=aP h
theorem jN.get {H:Hp}{vs:List V}{rs:List Rch}{i:Nat}{v:V}(h:jN H vs rs) (e:vs[i]? = some v):∃r,rs[i]? = some r/\gH H v r:=Paired.get h e
theorem jN.at {H:Hp}{vs:List V}{rs:List Rch}{i:Nat}{r:Rch}(h:jN H vs rs) (e:rs[i]? = some r):∃v,vs[i]? = some v/\gH H v r:=by
 have hi:i<vs.length:=by rw [h.length];exact (List.getElem?_eq_some_iff.mp e).1
 obtain ⟨r',e2,q⟩:=h.get (aa hi)
 rw [e] at e2
 cases e2
 exact ⟨_,aa hi,q⟩
theorem jN.snoc {H:Hp}{vs:List V}{rs:List Rch}{v:V}{r:Rch}(h:jN H vs rs) (q:gH H v r):jN H (vs++[v]) (rs++[r]):=cu h q
def zu (H:Hp) (vs:List V) (ws:List (List Int)):Prop:=cf (λv (w:List Int)=>∃a,v=V.ref a/\H a=some (.tup (w.map V.int))) vs ws
theorem zu.keep {H H':Hp}{vs:List V}{ws:List (List Int)}(k:ji H H') (h:zu H vs ws):zu H' vs ws:=Paired.mapP h λ_ _ ⟨a,e,q⟩=>⟨a,e,k _ _ q⟩
theorem zu.length {H:Hp}{vs:List V}{ws:List (List Int)}(h:zu H vs ws):vs.length=ws.length:=aP h
theorem vC (x:Int) (l:List Int):inV (.int x) (l.map V.int)=decide (x∈l):=by
 unfold inV
 induction l with
 | nil=>rfl
 | cons y l ih =>
  rw [aH,dM,ih]
  by_cases e:x=y
  ·subst e
   rw [decide_eq_true (aC (a:=x))]
   simp [eqV]
  ·by_cases m:x∈l
   ·rw [decide_eq_true m,decide_eq_true (az _ m),Bool.or_true]
   ·rw [decide_eq_false m,decide_eq_false (λz=>(List.mem_cons.mp z).elim e m),Bool.or_false]
    simp [eqV]
    exact λz=>e z.symm
theorem yh (l:List Int):(l.map V.int).all vA=true:=by
 rw [eP,bG]
 intro x _
 rfl
end L2
end
section
namespace L2
open PySem.W
section
variable {prog:Program}{w:aX}{A:bg}{E:ae->Shared->Prop}{s:Shared}
end
end L2
end
section
namespace L2
open PySem.W
section
variable {X:Cx}
end
end L2
end
section
namespace L2
open PySem.W
end L2
end
section
namespace L2
open PySem.W
section
variable {s:Shared}{A:bg}{prog:Program}{w:aX}{E:ae->Shared->Prop}
end
section
variable {X:Cx}{s:Shared}{σ:St}{H:Hp}{pins:List (Addr×Obj)}
end
section
variable {X:Cx}
end
end L2
end
section
namespace L2
open PySem.W
mutual
inductive Dat (H:Hp):V->du->Prop
 | non:Dat H .non .none
 | bl (b:Bool):Dat H (.bl b) (.bool b)
 | int (i:Int):Dat H (.int i) (.int i)
 | str (x:Str):Dat H (.str x) (.str x)
 | tup {p:Addr} {vs:List V} {ds:List du}:H p=some (.tup vs)->DatL H vs ds->Dat H (.ref p) (.tuple ds)
 | lst {p:Addr} {vs:List V} {ds:List du}:H p=some (.lst vs)->DatL H vs ds->Dat H (.ref p) (.list ds)
inductive DatL (H:Hp):List V->List du->Prop
 | nil:DatL H [] []
 | cons {v:V} {vs:List V} {d:du} {ds:List du}:Dat H v d->DatL H vs ds->DatL H (v::vs) (d::ds)
end
mutual
theorem Dat.ext {M:Addr->Prop}{H H':Hp}(x:UC M H H') (hM:∀c,M c->∀vs,H c≠some (.lst vs)/\H c≠some (.tup vs)):∀{v:V}{d:du},Dat H v d->Dat H' v d
 | _,_,.non=>.non
 | _,_,.bl b=>.bl b
 | _,_,.int i=>.int i
 | _,_,.str y=>.str y
 | _,_,.tup h r=>.tup (x _ _ h λz=>(hM _ z _).2 h) (DatL.ext x hM r)
 | _,_,.lst h r=>.lst (x _ _ h λz=>(hM _ z _).1 h) (DatL.ext x hM r)
theorem DatL.ext {M:Addr->Prop}{H H':Hp}(x:UC M H H') (hM:∀c,M c->∀vs,H c≠some (.lst vs)/\H c≠some (.tup vs)):∀{vs:List V}{ds:List du},DatL H vs ds->DatL H' vs ds
 | _,_,.nil=>.nil
 | _,_,.cons h r=>.cons (Dat.ext x hM h) (DatL.ext x hM r)
end
mutual
theorem Dat.rep {M:Addr->Prop}(hM:∀p,¬M p) {K:ai}{H:Hp}:∀{v:V}{d:du},Dat H v d->Rep M K H v d
 | _,_,.non=>.non
 | _,_,.bl b=>.bl b
 | _,_,.int i=>.int i
 | _,_,.str y=>.str y
 | _,_,.tup h r=>.tup (hM _) (SqT.of h) (DatL.rep hM r)
 | _,_,.lst h r=>.lst (hM _) (SqL.of h) (DatL.rep hM r)
theorem DatL.rep {M:Addr->Prop}(hM:∀p,¬M p) {K:ai}{H:Hp}:∀{vs:List V}{ds:List du},DatL H vs ds->RepL M K H vs ds
 | _,_,.nil=>.nil
 | _,_,.cons h r=>.cons (Dat.rep hM h) (DatL.rep hM r)
end
end L2
end
section
namespace L2
open PySem.W
def Two (vs:Array ae) (a0:ae):Prop:=vs[0]? = some a0/\vs[2]? = some .none
theorem Two.put {vs:Array ae}{a0:ae}(t:Two vs a0) (x:ae):Two (vs.setIfInBounds 1 x) a0 :=
 ⟨by rw [eU ⋯];exact t.1,by rw [eU ⋯];exact t.2⟩
theorem Yh (o:Obj) (f:Array ae->Array ae):(o.mapFields f).dict=o.dict:=by
 obtain ⟨c,d,dt,sl⟩:=o
 cases dt <;> rfl
def OnT (h B:Heap) (e:Addr) (cls a0 fl:ae):Prop :=
 ∃oe vs T oT ts,h.get? e=some oe/\(oe.cls=cls/\Two vs a0/\oe.dict=none)/\oe.data = .fields vs/\vs[1]? = some (.ref T)/\B.get? T=none/\T≠e/\h.get? T=some oT/\oT.data = .fields ts/\ts[3]? = some fl
section
variable {M:ph}{A:bg}{E:ae->Shared->Prop}{s:Shared}{B:Heap}{env:Env}{outer l:List Env}{L e:Addr}{cls a0 fl:ae}{Q:Unit->Shared->Prop}
theorem uJ (st:B.StaysIn s.heap) (fu:s.heap.FunFrames B l) (on:OnT s.heap B e cls a0 fl)
  (k:∀g,B.StaysIn g->g.FunFrames B l->OnT g B e cls a0 .none->(∀b o,s.heap.get? b=some o->(∀vs,o.data≠.fields vs)->g.get? b=some o)->Q () { s with heap:=g }):ay M A (setFlight (.ref e) none) Q E s:=by
 obtain ⟨oe,vs,T,oT,ts,ge,gc,gd,g1,gB,gn,gT,gD,g3⟩:=on
 have z3:3<ts.size:=(Array.getElem?_eq_some_iff.mp g3).1
 have ot:∀b,b≠T->(s.heap.update T (fi (·.setIfInBounds 3 ((none:Option Addr).elim b7 λf=>bY f)))).get? b=s.heap.get? b:=λb hb =>
  c7 _ _ hb.symm
 have nr:∀{b o},s.heap.get? b=some o->(∀vs,o.data≠.fields vs)->b≠T:=λhb hn q=>by
  rw [q,gT] at hb
  cases hb
  exact hn ts gD
 unfold setFlight
 refine ah (dZ ge gd g1 ?_)
 rw [if_pos (by simp)]
 refine lB gT gD z3 (k _ (λb o hb=>?_) (fu.of_keeps λb o hb hn=>⟨o,?_,rfl⟩) ?_ λb o hb hn=>?_)
 ·rw [ot b λq=>by rw [q,gB] at hb;cases hb]
  exact st b o hb
 ·rw [ot b (nr hb hn)]
  exact hb
 ·refine ⟨oe,vs,T,_,_,?_,gc,gd,g1,gB,gn,eY _ gT (eZ (fT gD _)),fT gD _,by simp [z3]⟩
  rw [ot e gn.symm]
  exact ge
 ·rw [ot b (nr hb hn)]
  exact hb
theorem gQ {oe:Obj}{vs:Array ae}{head:ae}{nx:Bool}(fr:A.frames=some (env::outer)) (fu:s.heap.FunFrames B (env::outer)) (hL:env.frame=some L) (ge:s.heap.get? e=some oe) (st:B.StaysIn s.heap) (ne:B.get? e=none) (gd:oe.data = .fields vs)
  (z1:1<vs.size) (tw:Two vs a0) (dn:oe.dict=none) (k:∀g,B.StaysIn g->g.FunFrames B (env::outer)->OnT g B e oe.cls a0 (bY L)->s.heap.UpToSlots g->Q () { s with heap:=g }) :
  ay M A (do let a <- frameOf env;let pl <- entryPlaceOf L nx;let b <- lL head a .none (bY L) .none pl;setField (.ref e) 1 b) Q E s:=by
 have out:e∉(env::outer).filterMap (·.frame):=λq=>by
  obtain ⟨_,o,ho,hn⟩:=fu.mem q
  rw [ge] at ho
  cases ho
  exact hn vs gd
 refine ah (wpAny_frameOf_fun fr fu hL λg1 so=>?_)
 refine ah (wpAny_entryPlaceOf λpl sh=>?_)
 unfold lL newFields
 refine ah (cv ?_ (sh.sizeOk5 _ _ _ _ _))
 have e1:g1.get? e=some oe:=(so.2.1 e out).trans ge
 have s1:B.StaysIn g1:=λb o hb=>(so.2.1 b λq=>by rw [(fu.mem q).1] at hb;cases hb).trans (st b o hb)
 generalize hnew:({ cls:=.type "traceback",dict:=none,data:=.fields ([head,.ref L,.none,bY L,.none]++(if pl.isEmpty then fP 6 b7 else pl)).toArray }:Obj)=new
 have nd:new.data = .fields ([head,.ref L,.none,bY L,.none]++(if pl.isEmpty then fP 6 b7 else pl)).toArray:=by rw [<- hnew]
 have e2:=aj (h:=g1) new e1
 refine lB e2 gd z1 ?_
 have Te:g1.objs.size≠e:=eF (ax e1)
 have d3:=fT gd (·.setIfInBounds 1 (aZ g1.objs.size))
 have e3:=eY (fi (·.setIfInBounds 1 (aZ g1.objs.size))) e2 (eZ d3)
 have T3:((g1.push new).update e (fi (·.setIfInBounds 1 (aZ g1.objs.size)))).get? g1.objs.size=some new:=by
  rw [c7 _ _ Te.symm]
  exact aD g1 (eZ nd)
 have kp:∀{b o},b≠e->g1.get? b=some o->((g1.push new).update e (fi (·.setIfInBounds 1 (aZ g1.objs.size)))).get? b=some o:=λhb q=>by
  rw [c7 _ _ hb.symm]
  exact aj _ q
 have nr:∀{b o},s.heap.get? b=some o->(∀vs,o.data≠.fields vs)->b≠e:=λhb hn q=>by
  rw [q,ge] at hb
  cases hb
  exact hn vs gd
 refine k _ (λb o hb=>kp (λq=>by rw [q,ne] at hb;cases hb) (s1 b o hb)) (fu.of_keeps λb o hb hn=>?_) ?_ λb o hb hn=>?_
 ·obtain ⟨sl,hs⟩:=so.2.2 b o hb
  exact ⟨_,kp (nr hb hn) hs,rfl⟩
 ·exact ⟨_,_,g1.objs.size,_,_,e3,⟨Obj.cls_mapFields _ _,tw.put _,(Yh _ _).trans dn⟩,d3,by simp [z1],s1.fresh,Te,T3,nd,by first | (simp;done) | (rcases sh with rfl | ⟨_,_,_,_,_,_,_,rfl⟩ <;> simp)⟩
 ·obtain ⟨sl,hs⟩:=so.2.2 b o hb
  exact ⟨sl,kp (nr hb hn) hs⟩
theorem Vc (fr:A.frames=some (env::outer)) (fu:s.heap.FunFrames B (env::outer)) (hL:env.frame=some L) (on:OnT s.heap B e cls a0 .none) (st:B.StaysIn s.heap) (ne:B.get? e=none)
  (k:∀g,B.StaysIn g->g.FunFrames B (env::outer)->OnT g B e cls a0 (bY L)->s.heap.UpToSlots g->Q () { s with heap:=g }):ay M A (fK (.ref e) env) Q E s:=by
 obtain ⟨oe,vs,T,oT,ts,ge,⟨rfl,tw,dn⟩,gd,g1,gB,gn,gT,gD,g3⟩:=on
 unfold fK
 simp only [hL]
 refine ah (dZ ge gd g1 ?_)
 rw [if_pos (by simp)]
 refine ah (dZ gT gD g3 ?_)
 rw [if_neg (by simp [bY])]
 refine ah (lB gT gD (Array.getElem?_eq_some_iff.mp g3).1 ?_)
 have ot:∀b,b≠T->(s.heap.update T (fi (·.setIfInBounds 3 b7))).get? b=s.heap.get? b:=λb hb =>
  c7 _ _ hb.symm
 have nr:∀{b o},s.heap.get? b=some o->(∀vs,o.data≠.fields vs)->b≠T:=λhb hn q=>by
  rw [q,gT] at hb
  cases hb
  exact hn ts gD
 refine gQ (oe:=oe) (vs:=vs) (a0:=a0) fr (fu.of_keeps λb o hb hn=>⟨o,?_,rfl⟩) hL ?_ (λb o hb=>?_) ne gd (Array.getElem?_eq_some_iff.mp g1).1 tw dn λg k1 k2 k3 k4=>k g k1 k2 k3 λb o hb hn=>?_
 ·exact (ot b (nr hb hn)).trans hb
 ·exact (ot e gn.symm).trans ge
 ·exact (ot b λq=>by rw [q,gB] at hb;cases hb).trans (st b o hb)
 ·exact k4 b o ((ot b (nr hb hn)).trans hb) hn
theorem ZI (fr:A.frames=some (env::outer)) (fu:s.heap.FunFrames B (env::outer)) (hL:env.frame=some L) (on:OnT s.heap B e cls a0 .none) (st:B.StaysIn s.heap) (ne:B.get? e=none)
  (k:∀g,B.StaysIn g->g.FunFrames B (env::outer)->OnT g B e cls a0 .none->s.heap.UpToSlots g->Q () { s with heap:=g }):ay M A (lF env (.ref e)) Q E s:=by
 unfold lF
 refine ah (Vc fr fu hL on st ne λg k1 k2 k3 k4=>?_)
 exact uJ (s:={ s with heap:=g }) k1 k2 k3 λg' m1 m2 m3 m4=>k g' m1 m2 m3 (k4.trans λb o hb hn=>⟨o.slots,m4 b o hb hn⟩)
theorem Qs {h:Heap}{args:List ae}(fr:A.frames=some (env::outer)) (hL:env.frame=some L) (st:B.StaysIn h) (fu:h.FunFrames B (env::outer)) (hx:lC h s.heap e cls args)
  (k:∀g t,B.StaysIn g->g.FunFrames B (env::outer)->OnT g B e cls (.ref t) .none->B.get? e=none->s.heap.UpToSlots g->Q () { s with heap:=g }):ay M A (lF env (.ref e)) Q E s:=by
 obtain ⟨t,ge,tn,gt⟩:=hx.there
 have new:B.get? e=none:=by
  cases q:B.get? e with
  | none=>rfl
  | some o =>
   have:=st e o q
   rw [hx.new] at this
   cases this
 unfold lF fK
 simp only [hL]
 refine ah (ah (dZ (x:=.none) ge rfl rfl ?_))
 rw [if_neg ⋯]
 refine gQ (a0:=.ref t) fr (fu.of_keeps λb o hb _=>⟨o,hx.keeps b o hb,rfl⟩) hL ge (λb o hb=>hx.keeps b o (st b o hb)) new rfl (by simp) ⟨rfl,rfl⟩ rfl λg k1 k2 k3 k4=>?_
 exact uJ (s:={ s with heap:=g }) k1 k2 k3 λg' m1 m2 m3 m4=>k g' t m1 m2 m3 new (k4.trans λb o hb hn=>⟨o.slots,m4 b o hb hn⟩)
end
end L2
end
section
namespace L2
open PySem.W
structure Fly (g:Heap) (H:Hp) (h:Heap) (a:Addr) (cls fl:ae):Prop where
 na:g.get? a=none
 ha:H a=none
 ob:∃oe vs T oT ts a0,h.get? a=some oe/\(oe.cls=cls/\Two vs a0/\oe.dict=none)/\oe.data = .fields vs/\vs[1]? = some (.ref T)/\g.get? T=none/\H T=none/\T≠a/\h.get? T=some oT/\oT.data = .fields ts/\ts[3]? = some fl
theorem Fly.mono {g g':Heap}{H:Hp}{h:Heap}{a:Addr}{cls fl:ae}(f:Fly g H h a cls fl) (l:∀b o,g'.get? b=some o->∃o',g.get? b=some o'):Fly g' H h a cls fl:=by
 have no:∀{b},g.get? b=none->g'.get? b=none:=λ{b} e=>by
  cases q:g'.get? b with
  | none=>rfl
  | some o =>
   obtain ⟨o',e'⟩:=l b o q
   rw [e] at e'
   cases e'
 obtain ⟨oe,vs,T,oT,ts,a0,h1,h2,h3,h4,h5,h6⟩:=f.ob
 exact ⟨no f.na,f.ha,oe,vs,T,oT,ts,a0,h1,h2,h3,h4,no h5,h6⟩
def CX1 (P:Program) (w:aX):CXT:=λouter H s E e s' =>
 ∃a cls H',e = .ref a/\s'.os=s.os/\ff s'.gens/\Un (frs outer) [] H H' s.heap s'.heap/\HOk P w H' s'.heap/\Fly s.heap H' s'.heap a cls .none/\E cls none H'
def zr (X:Cx) (pins:List (Addr×Obj)) (σ:St) (H':Hp) (s1:Shared) (a:Addr) (cls fl:ae):Prop :=
 ∃s H,Inv X pins σ H s/\s1.os=s.os/\ff s1.gens/\Un (frs X.stack) [] H H' s.heap s1.heap/\HOk X.prog X.w H' s1.heap/\Fly s.heap H' s1.heap a cls fl
theorem wt {P:Program}{w:aX}{H:Hp}{h:Heap}{a:Addr}{o:HO}(x:jY P w H h a o):∃ob,h.get? a=some ob:=by
 cases o with
 | lst xs=>obtain ⟨_,_,_,_,e⟩:=x;exact ⟨_,e⟩
 | tup xs=>obtain ⟨_,_,_,ob,e,_⟩:=x;exact ⟨_,e⟩
 | dK kvs=>obtain ⟨_,_,_,_,ob,_,_,e,_⟩:=x;exact ⟨_,e⟩
 | dT kvs=>obtain ⟨_,_,_,_,ob,_,_,e,_⟩:=x;exact ⟨_,e⟩
 | set S n=>obtain ⟨ob,_,_,_,e,_⟩:=x;exact ⟨_,e⟩
 | ins C dx fs=>obtain ⟨_,_,_,e,_⟩:=x;exact ⟨_,e⟩
 | own y=>exact x
 | xd fs=>obtain ⟨_,⟨_,_,_,e,_⟩,_⟩:=x;exact ⟨_,e⟩
 | rng lo hi=>obtain ⟨_,_,_,e⟩:=x;exact ⟨_,e⟩
 | frz ob u=>obtain ⟨e,_⟩:=x;exact ⟨_,e⟩
 | tbl ps=>exact ⟨_,(show h.get? a=some _ from x)⟩
 | met f y=>exact ⟨_,(show h.get? a=some _ from x)⟩
 | ext φ=>obtain ⟨_,e,_⟩:=x;exact e
section
variable {X:Cx}{pins:List (Addr×Obj)}{σ:St}{H H':Hp}{s s1:Shared}{a:Addr}{cls fl:ae}
theorem zr.inv (f:zr X pins σ H' s1 a cls fl):Inv X pins σ H' s1:=by
 obtain ⟨s,H,I,os,b,u,ok,fy⟩:=f
 exact I.call' os u ok b (λb z=>absurd z (by simp))
theorem zr.fly (hex:X.ex=[]) (f:zr X pins σ H' s1 a cls fl):Fly X.s₀.heap H' s1.heap a cls fl:=by
 obtain ⟨s,H,I,os,b,u,ok,fy⟩:=f
 exact fy.mono λc o e=>I.base.there c o e (by rw [hex];exact λz=>by cases z)
theorem zr.under (f:zr X pins σ H' s1 a cls .none):∃B a0,(B.StaysIn s1.heap/\B.get? a=none/\s1.heap.FunFrames B X.stack/\OnT s1.heap B a cls a0 .none) /\
  ∀h2 fl2,B.StaysIn h2->s1.heap.UpToSlots h2->OnT h2 B a cls a0 fl2->zr X pins σ H' { s1 with heap:=h2 } a cls fl2:=by
 have I1:=f.inv
 obtain ⟨s,H,I,os,b,u,ok,fy⟩:=f
 obtain ⟨oe,vs,T,oT,ts,a0,h1,h2,h3,h4,h5,h6,h7,h8,h9,h10⟩:=fy.ob
 have fr:=I1.stack
 have fs:∀b∈frs X.stack,b≠a/\b≠T:=λb hb=>by
  obtain ⟨_,o,ho,hn⟩:=fr.mem hb
  refine ⟨λz=>?_,λz=>?_⟩
  ·rw [z,h1] at ho;cases ho;exact hn _ h3
  ·rw [z,h8] at ho;cases ho;exact hn _ h9
 have in_:∀env∈X.stack,∀c,env.frame=some c->c∈a::T::frs X.stack:=λenv he c hc=>az _ (az _ (List.mem_filterMap.mpr ⟨env,he,hc⟩))
 have noB:∀{c o},s1.heap.get? c=some o->c≠a->c≠T->c∉frs X.stack->(hideAll s1.heap (a::T::frs X.stack)).get? c=some o:=λe n1 n2 n3 =>
  hideAll_get _ e (by simp only [oF,not_or];exact ⟨n1,n2,n3⟩)
 refine ⟨hideAll s1.heap (a::T::frs X.stack),a0,⟨λb o q=>of_hideAll _ q,hideAll_none _ (.head _),oi fr in_,oe,vs,T,oT,ts,h1,h2,h3,h4,hideAll_none _ (.tail _ (.head _)),h7,h8,h9,h10⟩,λhp fl2 st up tr=>?_⟩
 have lo:∀{c o},s.heap.get? c=some o->c≠a/\c≠T:=λ{c o} e=>⟨λz=>(by rw [z,fy.na] at e;cases e),λz=>(by rw [z,h5] at e;cases e)⟩
 have frn:∀{c o},s1.heap.get? c=some o->c∈frs X.stack->∀vs,o.data≠.fields vs:=λe hc=>by
  obtain ⟨_,o',ho,hn⟩:=fr.mem hc
  rw [e] at ho;cases ho;exact hn
 refine ⟨s,H,I,os,b,⟨λc o e n nf nx=>?_,λc o e n hf nx=>?_,λc o e n nx=>u.free c o e n nx,λc o e nx=>?_,u.tups,u.frzs,u.tbls⟩,λc o hc=>?_,?_⟩
 ·exact st _ _ (noB (u.keep c o e n nf nx) (lo e).1 (lo e).2 nf)
 ·obtain ⟨sl,e1⟩:=u.slot c o e n hf nx
  obtain ⟨sl2,e2⟩:=up c _ e1 (frn e1 hf)
  exact ⟨sl2,e2⟩
 ·obtain ⟨o1,e1⟩:=u.there c o e nx
  by_cases hf:c∈frs X.stack
  ·obtain ⟨sl2,e2⟩:=up c _ e1 (frn e1 hf)
   exact ⟨_,e2⟩
  ·exact ⟨o1,st _ _ (noB e1 (lo e).1 (lo e).2 hf)⟩
 ·refine (ok c o hc).stay (λc' o' hc' e=>?_) (λ_ e=>e) λ_ _ e=>e
  have hne:H' c'≠none:=by
   rcases hc' with z | z
   ·rw [z,hc];exact λy=>by cases y
   ·rw [z];exact λy=>by cases y
  exact st _ _ (noB e (λz=>hne (by rw [z];exact fy.ha)) (λz=>hne (by rw [z];exact h6)) λz=>hne (I1.stkFree _ z))
 ·obtain ⟨oe2,vs2,T2,oT2,ts2,g1,g2,g3,g4,g5,g6,g7,g8,g9⟩:=tr
  have key:T2=T\/s1.heap.get? T2=none:=by
   cases q:s1.heap.get? T2 with
   | none=>exact .inr rfl
   | some o =>
    refine .inl ?_
    by_cases hT:T2=T
    ·exact hT
    ·by_cases hf:T2∈frs X.stack
     ·obtain ⟨sl2,e2⟩:=up T2 _ q (frn q hf)
      rw [e2] at g7
      cases g7
      exact absurd g8 (frn q hf _)
     ·have:=noB q g6 hT hf
      rw [g5] at this
      cases this
  refine ⟨fy.na,fy.ha,oe2,vs2,T2,oT2,ts2,a0,g1,g2,g3,g4,?_,?_,g6,g7,g8,g9⟩
  ·rcases key with z | z
   ·rw [z];exact h5
   ·cases q:s.heap.get? T2 with
    | none=>rfl
    | some o =>
     obtain ⟨o',e'⟩:=u.there T2 o q (by simp)
     rw [z] at e'
     cases e'
  ·rcases key with z | z
   ·rw [z];exact h6
   ·cases q:H' T2 with
    | none=>rfl
    | some o =>
     obtain ⟨o',e'⟩:=wt (ok T2 o q)
     rw [z] at e'
     cases e'
theorem zr.leave {Q:Unit->Shared->Prop}{E:ae->Shared->Prop}(f:zr X pins σ H' s1 a cls .none) (st:X.stack=X.env::X.outer) (hf:X.env.frame=some X.env.locals)
  (k:∀h2,zr X pins σ H' { s1 with heap:=h2 } a cls .none->Q () { s1 with heap:=h2 }):ay (aA X.prog X.w) X.A (lF X.env (.ref a)) Q E s1:=by
 obtain ⟨B,a0,fw,up⟩:=f.under
 have fr:X.A.frames=some (X.env::X.outer):=by rw [<- st];exact f.inv.ok.frames
 rw [st] at fw
 obtain ⟨f1,f2,f3,f4⟩:=fw
 exact ZI fr f3 hf f4 f1 f2 λh2 k1 k2 k3 k4=>k h2 (up h2 .none k1 k4 k3)
theorem Qi {vs:List ae}{h1:Heap}{Q:Unit->Shared->Prop}{E:ae->Shared->Prop}(I:Inv X pins σ H s) (hx:lC s.heap h1 a cls vs) (st:X.stack=X.env::X.outer) (hf:X.env.frame=some X.env.locals)
  (k:∀h2,zr X pins σ H { s with heap:=h2 } a cls .none->Q () { s with heap:=h2 }):ay (aA X.prog X.w) X.A (lF X.env (.ref a)) Q E { s with heap:=h1 }:=by
 have fr:X.A.frames=some (X.env::X.outer):=by rw [<- st];exact I.ok.frames
 have fun0:=I.stack
 have in_:∀env∈X.stack,∀c,env.frame=some c->c∈frs X.stack:=λenv he c hc=>List.mem_filterMap.mpr ⟨env,he,hc⟩
 have fun1:=oi fun0 in_
 have frn:∀{c o},s.heap.get? c=some o->c∈frs X.stack->∀vs,o.data≠.fields vs:=λe hc=>by
  obtain ⟨_,o',ho,hn⟩:=fun0.mem hc
  rw [e] at ho;cases ho;exact hn
 rw [st] at fun1
 refine Qs (s:={ s with heap:=h1 }) (B:=hideAll s.heap (frs (X.env::X.outer))) (h:=s.heap) fr hf (λb o q=>of_hideAll _ q) fun1 hx λh2 t b1 b2 fw b3 up=>?_
 rw [<- st] at fw b1
 obtain ⟨oe,ws,T,oT,ts,g1,g2,g3,g4,g5,g6,g7,g8,g9⟩:=fw
 have keepB:∀{c o},s.heap.get? c=some o->c∉frs X.stack->h2.get? c=some o:=λe n=>b1 _ _ (hideAll_get _ e n)
 have slotB:∀{c o},s.heap.get? c=some o->c∈frs X.stack->∃sl,h2.get? c=some { o with slots:=sl }:=λ{c o} e hc=>up c o (hx.keeps _ _ e) (frn e hc)
 have nT:s.heap.get? T=none:=by
  cases q:s.heap.get? T with
  | none=>rfl
  | some o =>
   exfalso
   by_cases hc:T∈frs X.stack
   ·obtain ⟨sl,e⟩:=slotB q hc
    rw [e] at g7
    cases g7
    exact frn q hc _ g8
   ·rw [hideAll_get _ q hc] at g5
    cases g5
 have hn:∀{c},s.heap.get? c=none->H c=none:=λ{c} e=>by
  cases q:H c with
  | none=>rfl
  | some o =>
   obtain ⟨o',e'⟩:=wt (I.hok c o q)
   rw [e] at e'
   cases e'
 refine k h2 ⟨s,H,I,rfl,I.bare,⟨λc o e n nf nx=>keepB e nf,λc o e n hf nx=>slotB e hf,λc o e n nx=>n,λc o e nx=>?_,λ_ _ e=>e,λ_ _ _ e=>e,λc ps e=>⟨#[],by rw [e];simp⟩⟩,λc o hc=>?_,hx.new,hn hx.new,oe,ws,T,oT,ts,.ref t,g1,g2,g3,g4,nT,hn nT,g6,g7,g8,g9⟩
 ·by_cases hc:c∈frs X.stack
  ·obtain ⟨sl,e2⟩:=slotB e hc
   exact ⟨_,e2⟩
  ·exact ⟨o,keepB e hc⟩
 ·refine (I.hok c o hc).stay (λc' o' hc' e=>?_) (λ_ e=>e) λ_ _ e=>e
  refine keepB e λz=>?_
  have:=I.stkFree _ z
  rcases hc' with y | y
  ·rw [y,hc] at this;cases this
  ·rw [y] at this;cases this
end
def Acc (X:Cx) (J:ae->St->Hp->Prop):Prop:=∀(pins:List (Addr×Obj)) (σ:St) (H':Hp) (s1:Shared) (a:Addr) (cls:ae),zr X pins σ H' s1 a cls .none->J cls σ H'->X.xe (.ref a) s1
def Vt (sp:Sp) (J:ae->St->Hp->Prop) (t:TA):TE:=λσ H Q=>t σ H λvs H1=>sp vs H1 Q λcls _ H'=>J cls σ H'
structure CalX (P:Program) (w:aX) (K:ai) (mg:Str->Option ae) (base:Heap) (k:Nat) (x:Str) (ps:List Str) (sp:Sp):Prop where
 ex:∃f fd,FnOk P w K mg base (CX1 P w) k f fd ps sp/\zP K fd ps []/\mg x=some (.ref f)/\bD K (.ref f)=true
theorem xw {X:Cx}{k:Nat}{x:Str}{ps:List Str}{sp:Sp}{e:Expr}{es:List Expr}{t:TA}{p pos:Pos}{J:ae->St->Hp->Prop}(c:CalX X.prog X.w X.K X.mg X.base k x ps sp) (hr:Room k X.A) (ac:Acc X J) (hg:Gl X x) (ha:PA X (e::es) t)
  (hdb:(x == ("__debug__" : Str))=false:=by decide) (he:aK (e::es) X.env=(false,eval e X.env)::aK es X.env:=by rfl) (hpl:(ck pos (aK es X.env)).any (·.1)=false:=by rfl) :
  PE X (.Call (.Name x p) (e::es) [] pos) (Vt sp J t):=by
 obtain ⟨f,fd,F,hb,hm,hk⟩:=c.ex
 intro pins s σ H Q I h
 refine cJ (vy I hg hm ?_ hdb)
 refine df (h₀:=X.base) I.ok.mod.kin hk (thn (ha pos pins s σ H _ I h) λus s1 ⟨vs,H1,I1,r,q⟩=>⟨I1.kIn,?_⟩) he hpl
 have hl:us.length=ps.length:=by rw [<- r.length];exact F.len _ _ _ _ q
 have hb':=hb s1 us I1.kIn (by rw [br];exact hl)
 rw [br] at hb'
 refine iG (cU (F.run X.A X.stack s1 H1 ⟨us,[]⟩ us vs Q _ hr I1.env0 hb' r q) λr s' hq=>?_)
 cases r with
 | error e =>
  obtain ⟨a,cls,H',rfl,os,b,u,ok,fy,j⟩:=hq
  exact ac pins σ H' s' a cls ⟨s1,H1,I1,os,b,u,ok,fy⟩ j
 | ok fl =>
  cases fl with
  | ret u=>exact I1.after hq
  | next=>exact bp hq
  | brk=>exact bp hq
  | cont=>exact bp hq
theorem CalX.cal {P:Program}{w:aX}{K:ai}{mg:Str->Option ae}{base:Heap}{k:Nat}{x:Str}{ps:List Str}{sp:Sp}(c:CalX P w K mg base k x ps sp):Cal P w K mg base k x ps (λvs H Q _=>sp vs H Q E0):=by
 obtain ⟨f,fd,F,hb,hm,hk⟩:=c.ex
 refine ⟨f,fd,⟨λvs H Q E h=>F.len vs H Q E0 h,λA outer s H args us vs Q E hr he hb hv hs=>cU (F.run A outer s H args us vs Q E0 hr he hb hv hs) λr s' q=>?_⟩,hb,hm,hk⟩
 cases r with
 | error e =>
  obtain ⟨a,cls,H',_,_,_,_,_,_,j⟩:=q
  exact bp j
 | ok fl =>
  cases fl with
  | ret u=>exact q
  | next=>exact q
  | brk=>exact q
  | cont=>exact q
theorem qt {P:Program}{w:aX}{K:ai}{mg:Str->Option ae}{base:Heap}{N:List Str}{qual:Str}{scope:Scope}{f:Addr}{cd:ae}{A:bg}{outer:List Env}{s:Shared}{H:Hp}{E:XK} :
  Acc (yO (CX1 P w) P w K mg base N qual scope f cd A outer s H E) λcls _ H'=>E cls none H':=by
 intro pins σ H' s1 a cls fl j
 refine zr.leave (X:=yO (CX1 P w) P w K mg base N qual scope f cd A outer s H E) fl rfl rfl λh2 f2=>?_
 exact ⟨a,cls,H',rfl,f2.inv.os,f2.inv.bare,f2.inv.base,f2.inv.hok,f2.fly rfl,j⟩
def UM (X:Cx) (J:ae->St->Hp->Prop):Prop:=∀(pins:List (Addr×Obj)) (σ:St) (H:Hp) (s:Shared) (h1:Heap) (a:Addr) (cls:ae) (vs:List ae),Inv X pins σ H s->lC s.heap h1 a cls vs->J cls σ H->X.xe (.ref a) { s with heap:=h1 }
theorem xH {P:Program}{w:aX}{K:ai}{mg:Str->Option ae}{base:Heap}{N:List Str}{qual:Str}{scope:Scope}{f:Addr}{cd:ae}{A:bg}{outer:List Env}{s:Shared}{H:Hp}{E:XK} :
  UM (yO (CX1 P w) P w K mg base N qual scope f cd A outer s H E) λcls _ H'=>E cls none H':=by
 intro pins σ H' s1 h1 a cls vs I hx j
 refine Qi (X:=yO (CX1 P w) P w K mg base N qual scope f cd A outer s H E) I hx rfl rfl λh2 f2=>?_
 exact ⟨a,cls,H',rfl,f2.inv.os,f2.inv.bare,f2.inv.base,f2.inv.hok,f2.fly rfl,j⟩
theorem U9 {K:ai}{h:Heap}{C:Addr}{bmB:List ae}{newId:String}(X:K.In h) (q:excIn K C bmB newId=true) :
  ∃bm N nm q bs hdct sn sub ab col dd k0 k1 k2 k3 k5 mN,h.get? C=some (excClassObj nm q C N bs bm hdct sn sub ab col dd k0 k1 k2 k3 k5 newId)/\h.Ns N mN/\mN "__init__" = none/\OwnTail h bmB bm:=by
 unfold excIn at q
 split at q
 ·rename_i dd cd sl ho
  split at q
  ·rename_i C' bm k0 k1 k2 k3 n k5 em es
   simp only [bh,beq_iff_eq,Bool.not_eq_true'] at q
   obtain ⟨⟨⟨⟨⟨rfl,rfl⟩,e1⟩,e2⟩,e3⟩,e4⟩:=q
   obtain ⟨nm,bs,mro,ns,qn,hd,sn,sub,ab,col,del⟩:=cd
   dsimp only at em e1 e3 e4
   subst em e1
   have e5:sl = #[k0,k1,k2,k3,some (.builtin n),k5]:=by obtain ⟨l⟩:=sl;simp only at es;rw [es]
   subst e5
   exact ⟨bm,ns,nm,qn,bs,hd,sn,sub,ab,col,dd,k0,k1,k2,k3,k5,_,X _ _ ho,.of_isNs (isNs_of_in X e3),nsMap_none_of_in X e3 e4,tail_of_in X e2⟩
  ·cases q
 ·cases q
theorem xl {X:Cx}{x:Str}{np cpos pos:Pos}{e:Expr}{es:List Expr}{t:TA}{C:Addr}{B newId initId:String}{bmB:List ae}{J:ae->St->Hp->Prop}(FB:ExcBaseFacts B newId initId bmB) (O:excIn X.K C bmB newId=true) (hm:X.mg x=some (.ref C)) (hc:X.calm=true) (am:UM X J)
  (hg:Gl X x) (ha:PA X (e::es) t) (hdb:(x == ("__debug__" : Str))=false:=by decide) (he:aK (e::es) X.env=(false,eval e X.env)::aK es X.env:=by rfl) (hpl:(ck cpos (aK es X.env)).any (·.1)=false:=by rfl) :
  PS X (.Raise (some (.Call (.Name x np) (e::es) [] cpos)) none pos) (λD σ H=>t σ H λvs H1=>vs.length<=sizeLine/\J (.ref C) σ H1):=by
 intro pins s σ H D I h
 obtain ⟨bm,N,nm,q,bs,hdct,sn,sub,ab,col,dd,k0,k1,k2,k3,k5,mN,hC,hN,hni,T⟩:=U9 I.ok.mod.kin O
 have h':=ha cpos pins s σ H _ I h
 rw [he] at h'
 refine wpAny_Raise_call_subT (C:=C) (nm:=nm) (q:=q) (N:=N) (bs:=bs) (bm:=bm) (hdct:=hdct) (sn:=sn) (sub:=sub) (ab:=ab) (col:=col) (dd:=dd) (k0:=k0) (k1:=k1) (k2:=k2) (k3:=k3) (k5:=k5)
  FB (mN:=mN) (T.hasType FB.hasBase) (I.ok.hd hc) (by rw [he];show (false || (ck cpos (aK es X.env)).any (·.1))=false;rw [hpl];rfl) hni (vy I hg hm ⟨rfl,?_⟩ hdb)
 rw [he]
 refine fq (thn h' λus s2 ⟨vs,H2,I2,r,hl,j⟩=>⟨rfl,by rw [<- r.length];exact hl,I2.bk _ _ hC,hN.keeps I2.bk,T.keeps I2.bk,λh1 a hx=>am pins σ H2 s2 h1 a (.ref C) _ I2 hx j⟩)
theorem Fun.okX {P:Program}{w:aX}{K:ai}{mg:Str->Option ae}{base:Heap}{x qual:Str}{st:Stmt}{f:Addr}{fd:FuncData}{N ps:List Str}{k:Nat}{sp:Sp}(F:Fun K x qual st f fd) (S:FnScope N ps (j8 st)) (len:∀vs H Q E,sp vs H Q E->vs.length=ps.length)
  (hbody:∀(cdv:ae) (A:bg) (outer:List Env) (s:Shared) (H:Hp) (vs:List V) (Q:VK) (E:XK),Room k (A.deeper (i7 qual (j8 st) s.heap.objs.size f cdv))->sp vs H Q E ->
   ∃t,PSs (yO (CX1 P w) P w K mg base N qual (j8 st) f cdv A outer s H E) (jH st) t/\t { nx:=λ_ H'=>Q .non H',rt:=Q } (start N vs) H):FnOk P w K mg base (CX1 P w) (k+1) f fd ps sp:=by
 obtain ⟨oc,od,kV,doc,pm,an,cdv,ct,osl,rfl,lk,hcd⟩:=F.ex
 exact ZJ lk hcd S len λA outer s H vs Q E hr hsp=>hbody cdv A outer s H vs Q E hr hsp
theorem CalX.mk' {P:Program}{w:aX}{K:ai}{mg:Str->Option ae}{base:Heap}{k:Nat}{x:Str}{ps:List Str}{sp:Sp}{st:Stmt}{h:Heap}{f:Addr}{oc:ae}{od an:Option Addr}{osl:Array (Option ae)}{kV doc pm cdv ct:ae}
  (X:K.In h) (G:h.Ns mainGlobals mg) (a:aN K mainGlobals x=some (some (.ref f)))
  (l:K.lookup f=some ⟨oc,od,.func (bw x x (jP st) (jH st) (j8 st) .none kV doc pm an cdv ct),osl⟩) (c:c6 K cdv x=true) (k':bD K (.ref f)=true)
  (hb:∀(kV doc pm:ae) (an:Option Addr) (cdv ct:ae) (us:List ae),us.length=ps.length->c5 (bw x x (jP st) (jH st) (j8 st) .none kV doc pm an cdv ct) ⟨us,[]⟩=pure (ps.zip us))
  (ok:∀{f:Addr} {fd:FuncData},Fun K x x st f fd->FnOk P w K mg base (CX1 P w) k f fd ps sp):CalX P w K mg base k x ps sp:=by
 have F:=yG (st:=st) l c k'
 exact ⟨f,_,ok F,F.binds hb,bf X G a,k'⟩
end L2
end
section
namespace L2
open PySem.W
section
variable {X:Cx}{pins pn:List (Addr×Obj)}{σ:St}{H:Hp}{s:Shared}{J:ae->St->Hp->Prop}
theorem okP (ok:X.Ok) (Y:Cx) (h:Y={ X with pn:=Y.pn,xe:=Y.xe }):Y.Ok:=by
 rw [h]
 exact ⟨ok.mod,ok.kind,ok.glob,ok.blt,ok.above,ok.inj,ok.has,ok.cab,ok.hd,ok.frames,ok.stk,ok.exf,ok.bs,ok.bsz,ok.noex,ok.exfs,ok.funs,ok.frf⟩
theorem spOf {Y:Cx}{pins':List (Addr×Obj)}{D:Ends}{f:Flow}{s':Shared}(g:∀{σ H},Inv Y pins' σ H s'->Inv X pins σ H s') (h:SP Y pins' D f s'):SP X pins D f s':=by
 cases f with
 | next=>obtain ⟨σ',H',I,q⟩:=h;exact ⟨σ',H',g I,q⟩
 | brk=>obtain ⟨σ',H',I,q⟩:=h;exact ⟨σ',H',g I,q⟩
 | cont=>obtain ⟨σ',H',I,q⟩:=h;exact ⟨σ',H',g I,q⟩
 | ret u=>obtain ⟨v,σ',H',I,r,q⟩:=h;exact ⟨v,σ',H',g I,r,q⟩
end
end L2
end
section
namespace L2
open PySem.W
section
variable {s:Shared}{A:bg}{prog:Program}{w:aX}{E:ae->Shared->Prop}
end
section
variable {X:Cx}
end
end L2
end
section
namespace L2
open PySem.W
end L2
end
section
namespace L2
open PySem.W
section
variable {X:Cx}{o e:Expr}{es:List Expr}{to:TE}{t:TA}{name:Str}{apos cpos:Pos}{id:String}{r:V->List V->Hp->VK->Prop}
end
end L2
end
section
namespace L2
open PySem.W
abbrev uA (ifs:List Expr) (env:Env):Sem Bool:=oW ifs true λc r=>if r=true then do let ok <- isTrue c env (eval c env);pure (bE ok) else pure (bE r)
abbrev xm (elt tg iter tg2 iter2:Expr) (ifs ifs2:List Expr) (scope:Scope) (pos:Pos):Expr:=.ListComp elt [⟨tg,iter,ifs,0⟩,⟨tg2,iter2,ifs2,0⟩] scope pos
theorem Ze (elt tg iter tg2 iter2:Expr) (ifs ifs2:List Expr) (scope:Scope) (pos:Pos) (it acc:ae) (env:Env) :
  my (xm elt tg iter tg2 iter2 ifs ifs2 scope pos) 0 it acc env=(eE iter.pos >>= λ_=>lj it >>= λr=>match r with
   | none=>pure (.done .next)
   | some v=>cz tg it v >>= λ_=>fz tg env v >>= λ_=>uA ifs env >>= λok =>
    (if ok=true then (eval iter2 env >>= λx=>eE iter2.pos >>= λ_=>c3 iter2 env x >>= λx=>dQ [x] (lU x) >>= λi2=>runOwn (.compStart (xm elt tg iter tg2 iter2 ifs ifs2 scope pos) 1 i2 acc env) env >>= λ_=>again (.compLoop (xm elt tg iter tg2 iter2 ifs ifs2 scope pos) 0 it acc env))
     else again (.compLoop (xm elt tg iter tg2 iter2 ifs ifs2 scope pos) 0 it acc env))):=by
 rfl
theorem ZC (elt tg iter tg2 iter2:Expr) (ifs ifs2:List Expr) (scope:Scope) (pos:Pos) (it acc:ae) (env:Env) :
  my (xm elt tg iter tg2 iter2 ifs ifs2 scope pos) 1 it acc env=(eE iter2.pos >>= λ_=>lj it >>= λr=>match r with
   | none=>pure (.done .next)
   | some v=>cz tg2 it v >>= λ_=>fz tg2 env v >>= λ_=>uA ifs2 env >>= λok =>
    (if ok=true then ((eval elt env >>= λx=>call (.builtin "list.append") [acc,x] >>= λ_=>pure ()) >>= λ_=>again (.compLoop (xm elt tg iter tg2 iter2 ifs ifs2 scope pos) 1 it acc env))
     else again (.compLoop (xm elt tg iter tg2 iter2 ifs ifs2 scope pos) 1 it acc env))):=by
 rfl
section
variable {s:Shared}{A:bg}{prog:Program}{w:aX}{R:lW->Shared->Prop}{elt tg iter tg2 iter2:Expr}{ifs ifs2:List Expr}{scope:Scope}{pos:Pos}{it acc:ae}{env:Env}
theorem ZA (I:Nat->Shared->Prop)
  (turn:∀n s,I n s->ay (aA prog w) A (lj it) (λr s₁=>match r with
   | none=>R (.ok .next) s₁
   | some v=>ay (aA prog w) A (cz tg2 it v) (λ_ s₂=>ay (aA prog w) A (fz tg2 env v) (λ_ s₃=>ay (aA prog w) A (uA ifs2 env) (λok s₄ =>
      if ok=true then ay (aA prog w) A (eval elt env) (λx s₅=>ay (aA prog w) A (call (.builtin "list.append") [acc,x]) (λ_ s₆=>∃m,m<n/\I m s₆) (λ_ _=>False) s₅) (λ_ _=>False) s₄
      else ∃m,m<n/\I m s₄) (λ_ _=>False) s₃) (λ_ _=>False) s₂) (λ_ _=>False) s₁) (λ_ _=>False) s)
  (n:Nat) (h:I n s):cE (aA prog w) A (.compLoop (xm elt tg iter tg2 iter2 ifs ifs2 scope pos) 1 it acc env) R s:=by
 refine mx rfl I (λn s hI=>?_) n h
 show ay _ A ((my (xm elt tg iter tg2 iter2 ifs ifs2 scope pos) 1 it acc env).onRaise (λx=>do fK x env;iV x)) _ _ s
 refine mW ?_;rw [ZC]
 refine ah (cH (ah (aV (turn n s hI) (λr s₁ h₁=>?_) λ_ _ h'=>h'.elim)))
 cases r with
 | none=>exact wpAny_pure h₁
 | some v =>
  refine ah (aV h₁ (λ_ s₂ h₂=>?_) λ_ _ h'=>h'.elim)
  refine ah (aV h₂ (λ_ s₃ h₃=>ah (aV h₃ (λok s₄ h₄=>?_) λ_ _ h'=>h'.elim)) λ_ _ h'=>h'.elim)
  cases ok with
  | false=>exact wpAny_pure ⟨rfl,h₄⟩
  | true=>exact ah (ah (aV h₄ (λx s₅ h₅=>ah (aV h₅ (λ_ s₆ h₆=>wpAny_pure (wpAny_pure ⟨rfl,h₆⟩)) λ_ _ h'=>h'.elim)) λ_ _ h'=>h'.elim))
theorem Xw {R:lW->Shared->Prop}(h0:cE (aA prog w) A (.compLoop (xm elt tg iter tg2 iter2 ifs ifs2 scope pos) 1 it acc env) R s)
  (h:ay (aA prog w) A (lU it) (λi2 s'=>cE (aA prog w) A (.compLoop (xm elt tg iter tg2 iter2 ifs ifs2 scope pos) 1 i2 acc env) R s') (λ_ _=>False) s) :
  cE (aA prog w) A (.compStart (xm elt tg iter tg2 iter2 ifs ifs2 scope pos) 1 it acc env) R s:=by
 refine codeAny_of_tree ?_
 show ay _ _ ((compStart (xm elt tg iter tg2 iter2 ifs ifs2 scope pos) 1 it acc env).onRaise (λx=>do fK x env;eE theWindowsPlace)) _ _ s
 refine wpAny_notedAt ?_;unfold compStart;show ay _ _ (ask >>= _) _ _ s
 refine ah (wpAny_askSetting (wpAny_ite ?_))
 split
 ·first | exact ah (wpAny_pure (wpAny_pure (ef rfl h0))) | exact wpAny_pure (ef rfl h0)
 ·first
   | exact ah (m8 (ah (cH (ah (aV h (λi2 s' h'=>wpAny_pure (ef rfl h')) λ_ _ x=>x.elim)))))
   | (refine ah (m8 ?_);show ay _ _ (eE iter2.pos >>= _) _ _ s;exact ah (cH (ah (aV h (λi2 s' h'=>wpAny_pure (ef rfl h')) λ_ _ x=>x.elim))))
theorem Z8 (I:Nat->Shared->Prop) (hs2:∀x,c3 iter2 env x=pure x)
  (turn:∀n s,I n s->ay (aA prog w) A (lj it) (λr s₁=>match r with
   | none=>R (.ok .next) s₁
   | some v=>ay (aA prog w) A (cz tg it v) (λ_ s₂=>ay (aA prog w) A (fz tg env v) (λ_ s₃=>ay (aA prog w) A (uA ifs env) (λok s₄ =>
      if ok=true then ay (aA prog w) A (eval iter2 env) (λx s₅=>ay (aA prog w) A (lU x) (λi2 s₆=>cE (aA prog w) A (.compStart (xm elt tg iter tg2 iter2 ifs ifs2 scope pos) 1 i2 acc env) (λr s'=>match r with | .ok _=>∃m,m<n/\I m s' | .error _=>False) s₆) (λ_ _=>False) s₅) (λ_ _=>False) s₄
      else ∃m,m<n/\I m s₄) (λ_ _=>False) s₃) (λ_ _=>False) s₂) (λ_ _=>False) s₁) (λ_ _=>False) s)
  (n:Nat) (h:I n s):cE (aA prog w) A (.compLoop (xm elt tg iter tg2 iter2 ifs ifs2 scope pos) 0 it acc env) R s:=by
 refine mx rfl I (λn s hI=>?_) n h
 show ay _ A ((my (xm elt tg iter tg2 iter2 ifs ifs2 scope pos) 0 it acc env).onRaise (λx=>do fK x env;iV x)) _ _ s
 refine mW ?_;rw [Ze]
 refine ah (cH (ah (aV (turn n s hI) (λr s₁ h₁=>?_) λ_ _ h'=>h'.elim)))
 cases r with
 | none=>exact wpAny_pure h₁
 | some v =>
  refine ah (aV h₁ (λ_ s₂ h₂=>?_) λ_ _ h'=>h'.elim)
  refine ah (aV h₂ (λ_ s₃ h₃=>ah (aV h₃ (λok s₄ h₄=>?_) λ_ _ h'=>h'.elim)) λ_ _ h'=>h'.elim)
  cases ok with
  | false=>exact wpAny_pure ⟨rfl,h₄⟩
  | true =>
   refine ah (aV h₄ (λx s₅ h₅=>ah (cH (ah (wpAny_of_eq (hs2 x) (ah (bO (aV h₅ (λi2 s₆ h₆=>ah (wpAny_runOwn ?_)) λ_ _ h'=>h'.elim))))))) λ_ _ h'=>h'.elim)
   rw [Around.mark_none]
   refine cU h₆ λr s' q=>?_
   cases r with
   | ok f=>exact wpAny_pure ⟨rfl,q⟩
   | error e=>exact q.elim
end
def wu (acc:Addr) (g2:TG) (ti2:TT) (te:TE) (J2:It) (NX:St->Hp->Prop) (σ3:St) (H5:Hp):Prop :=
 ∃W2:Nat->Nat->St->Hp->Prop,(∃m,W2 0 m σ3 H5)/\∀j m σ6 H6,W2 j m σ6 H6->(J2.stop j H6/\NX σ6 H6)\/(J2.go j H6/\∃NX2:St->Hp->Prop,(∀σ7 H7,NX2 σ7 H7->∃m',m'<m/\W2 (j+1) m' σ7 H7) /\
  ∀y H7,J2.yld j H6 y H7->g2 y σ6 H7 λσ8 H8=>ti2 σ8 H8 λok2 H9=>if ok2=true then te σ8 H9 λv H10=>∃ys,H10 acc=some (.lst ys)/\ys.length<sizeLine/\NX2 σ8 (upd H10 acc (.lst (ys++[v]))) else NX2 σ8 H9)
section
variable {X:Cx}{pos:Pos}
def VY (own:Nat) (caps:List Nat) (wi:TI) (g:TG) (ti:TT) (wi2:TI) (g2:TG) (ti2:TT) (te:TE):TE:=λσ H Q=>wi σ H λJ H1=>∀acc,H1 acc=none ->
 ∃W:Nat->Nat->St->Hp->Prop,(∃m,W 0 m (yB own caps σ) (upd H1 acc (.lst [])))/\∀i m σ' H',W i m σ' H' ->
  (J.stop i H'/\Q (.ref acc) H') \/
  (J.go i H'/\∃NX:St->Hp->Prop,(∀σ2 H2,NX σ2 H2->∃m',m'<m/\W (i+1) m' σ2 H2) /\
   ∀x H2,J.yld i H' x H2->g x σ' H2 λσ3 H3=>ti σ3 H3 λok H4=>if ok=true then wi2 σ3 H4 λJ2 H5=>wu acc g2 ti2 te J2 NX σ3 H5 else NX σ3 H4)
theorem Z7 {osc:Scope}{ON N:List Str}{scope:Scope}{own:Nat}{caps:List Nat}{cl:List (Str×Addr)}{tg elt iter tg2 iter2:Expr}{ifs ifs2:List Expr}{g g2:TG}{ti ti2:TT}{wi2:TI}{te:TE}{pins:List (Addr×Obj)}{σ:St}{H:Hp}{s:Shared}{fp:List Addr}{it:Addr}
  {tn:Nat->Heap->Prop} {J:It} {Q:VK} {RR:ae->Addr->lW->Shared->Prop} {E:ae->Shared->Prop}
  (hc:X.calm=true) (S:CompSc osc ON scope own N caps) (hsc:X.env.scope=osc) (hN:X.N=ON) (hcl:∀x,cl.lookup x=if (x,aY)∈scope.names then X.env.cells.lookup x else none)
  (hg:∀cl C s H ex,PG (X.block scope cl C N s H ex) tg g) (hif:∀cl C s H ex,gG (X.block scope cl C N s H ex) ifs ti) (hi2:∀cl C s H ex,PI (X.block scope cl C N s H ex) tg2 iter2 wi2) (hg2:∀cl C s H ex,PG (X.block scope cl C N s H ex) tg2 g2) (hif2:∀cl C s H ex,gG (X.block scope cl C N s H ex) ifs2 ti2) (he:∀cl C s H ex,PE (X.block scope cl C N s H ex) elt te) (hs2:∀env x,c3 iter2 env x=pure x)
  (I:Inv X pins σ H s) (T:Turn X.prog X.w X.K tg J fp it tn) (st:tn 0 s.heap) (hf:∀b∈fp,vN X pins H b)
  (hw:∀acc,H acc=none->∃W:Nat->Nat->St->Hp->Prop,(∃m,W 0 m (yB own caps σ) (upd H acc (.lst [])))/\∀i m σ' H',W i m σ' H' ->
   (J.stop i H'/\Q (.ref acc) H')\/(J.go i H'/\∃NX:St->Hp->Prop,(∀σ2 H2,NX σ2 H2->∃m',m'<m/\W (i+1) m' σ2 H2) /\
    ∀x H2,J.yld i H' x H2->g x σ' H2 λσ3 H3=>ti σ3 H3 λok H4=>if ok=true then wi2 σ3 H4 λJ2 H5=>wu acc g2 ti2 te J2 NX σ3 H5 else NX σ3 H4))
  (fin:∀(D C:Addr) (H':Hp) (s':Shared),Inv X pins σ H' s'->BlockAt X pins H' C->(∃m,s'.heap.Ns C m)->Q (.ref D) H'->RR (.ref D) C (.ok .next) s') :
  ay (aA X.prog X.w) X.A (nv []) (λacc s₃=>ay (aA X.prog X.w) X.A (o7 scope X.env.globals cl [] X.env.qual none .none (some X.env)) (λcenv s₄ =>
   cE (aA X.prog X.w) X.A (.compStart (xm elt tg iter tg2 iter2 ifs ifs2 scope pos) 0 (.ref it) acc { cenv with scope:=relabel scope X.env }) (RR acc cenv.locals) s₄) E s₃) E s:=by
 have hfs:∀b∈fp,b<s.heap.objs.size:=λb hb=>by
  obtain ⟨o,e,_⟩:=T.obj _ _ st b hb
  exact ax e
 refine cv (lr S.nocell (by intro y hy;simp at hy) (λh₁ hns₁ hsb₁=>?_) S.kind)
 dsimp only at hns₁ hsb₁ ⊢
 generalize hH2:s.heap.push { cls:=.type "list",dict:=none,data:=.seq ([]:List ae).toArray }=H2 at hns₁ hsb₁ ⊢
 have hCsz:H2.objs.size=s.heap.objs.size+1:=by rw [<- hH2,eJ]
 have old:∀b o,s.heap.get? b=some o->h₁.get? b=some o:=λb o e=>hsb₁.extBut b o (aB (by rw [hCsz];exact bW (ax e))) (aj _ (hH2 ▸ aj _ e))
 have eD:h₁.get? s.heap.objs.size=some { cls:=.type "list",data:=.seq #[] }:=hsb₁.extBut _ _ (aB ∅) (aj _ (hH2 ▸ aD _ rfl))
 have hDn:H s.heap.objs.size=none:=I.hok.fresh (ao _)
 obtain ⟨W,⟨m0,w0⟩,turn⟩:=hw s.heap.objs.size hDn
 have hns:h₁.Ns H2.objs.size λ_=>none:=hns₁
 have I1:Inv (X.block scope cl H2.objs.size N s H fp) [] (yB own caps σ) (upd H s.heap.objs.size (.lst [])) { s with heap:=h₁,toks:=s.toks+([]:List (Str×ae)).length } :=
  uf S hsc hN hcl I hf hfs rfl hCsz old eD hns _
 have st1:tn 0 h₁:=T.keep 0 _ _ st λb _ o e=>old b o e
 have fpB:∀{H':Hp},(∀b∈fp,H' b=none)->∀b∈fp,vN (X.block scope cl H2.objs.size N s H fp) [] H' b:=λ{H'} hn b hb=>by
  have ok:=I1.ok
  exact ⟨hn b hb,(ok.exf b hb).1,ok.exfs b hb,.inl hb,(ok.exf b hb).2,λp hp=>absurd (show p∈([]:List (Addr×Obj)) from hp) (by simp)⟩
 have back:∀{σ':St} {H':Hp} {s':Shared},Inv (X.block scope cl H2.objs.size N s H fp) [] σ' H' s'->Q (.ref s.heap.objs.size) H'->RR (.ref s.heap.objs.size) H2.objs.size (.ok .next) s':=λ{σ' H' s'} J1 q=>by
  have J2:Inv X pins σ H' s':=I.call' (ch:=fp) J1.os J1.base J1.hok J1.bare λb hb=>⟨(hf b hb).2.2.2.1,(hf b hb).2.1,(hf b hb).2.2.2.2.1,(hf b hb).2.2.2.2.2⟩
  obtain ⟨m,hm,_⟩:=J1.loc
  refine fin _ _ H' s' J2 ⟨J1.free,eF (aM I.lt ∅),aG I.sz ∅,λx c e z=>?_,λp hp z=>?_⟩ ⟨m,hm⟩ q
  ·obtain ⟨v,y⟩:=I.cell x c e
   have h1:H2.objs.size<s.heap.objs.size:=z ▸ y.lt
   exact absurd h1 ∅
  ·have h1:H2.objs.size<s.heap.objs.size:=z ▸ ax (I.pin p hp).1
   exact absurd h1 ∅
 have loop:∀s₃:Shared,s₃={ s with heap:=h₁,toks:=s.toks+([]:List (Str×ae)).length } ->
   cE (aA X.prog X.w) X.A (.compLoop (xm elt tg iter tg2 iter2 ifs ifs2 scope pos) 0 (.ref it) (.ref s.heap.objs.size) (nZ scope cl H2.objs.size X.env)) (RR (.ref s.heap.objs.size) H2.objs.size) s₃:=by
  rintro s₃ rfl
  refine Z8 (λn s'=>∃i σ' H',Inv (X.block scope cl H2.objs.size N s H fp) [] σ' H' s'/\tn i s'.heap/\(∀b∈fp,H' b=none)/\W i n σ' H') (hs2 _) ?_ m0
   ⟨0,_,_,I1,st1,λb hb=>by rw [j5 (aB (hfs b hb))];exact (hf b hb).1,w0⟩
  rintro n s3 ⟨i,σ3,H3,I3,st3,fr3,w3⟩
  rcases turn i n σ3 H3 w3 with ⟨stop,qn⟩ | ⟨go,NX,hNX,step⟩
  ·refine thn (T.done (X.block scope cl H2.objs.size N s H fp) rfl rfl rfl hc i [] s3 σ3 H3 _ I3 (fpB fr3) st3 stop) λr s4 ⟨hr,I4⟩=>?_
   subst hr
   exact back I4 qn
  ·refine thn (T.item (X.block scope cl H2.objs.size N s H fp) rfl rfl rfl hc i [] s3 σ3 H3 _ I3 (fpB fr3) st3 go) λr s4 ⟨u,hr,h4⟩=>?_
   subst hr
   refine thn h4 λ_ s5 ⟨x,H5,I5,r5,y5,st5,fr5⟩=>?_
   have I5':=I5.pinned (fpB fr5) (T.obj _ _ st5)
   refine thn (hg cl H2.objs.size s H fp _ s5 σ3 H5 x u _ I5' r5 (step x H5 y5)) λ_ s6 ⟨σ6,H6,I6,q6⟩=>?_
   refine thn (hif cl H2.objs.size s H fp _ s6 σ6 H6 _ I6 q6) λok s7 ⟨H7,I7,q7⟩=>?_
   have again:∀{s8:Shared} {σ8:St} {H8:Hp},Inv (X.block scope cl H2.objs.size N s H fp) ([]++xP fp s5.heap) σ8 H8 s8->NX σ8 H8->∃m,m<n/\∃i σ' H',Inv (X.block scope cl H2.objs.size N s H fp) [] σ' H' s8/\tn i s8.heap/\(∀b∈fp,H' b=none)/\W i m σ' H':=λ{s8 σ8 H8} I8 n8=>by
    obtain ⟨m',hm,w8⟩:=hNX σ8 H8 n8
    refine ⟨m',hm,i+1,σ8,H8,I8.unpinned,T.keep _ _ _ st5 λb hb o e=>(I8.pin (b,o) (aF _ (aF _ (qB hb e)))).1,λb hb=>?_,w8⟩
    obtain ⟨o,e,d⟩:=T.obj _ _ st5 b hb
    exact (I8.pin (b,o) (aF _ (aF _ (qB hb e)))).2.1
   cases ok with
   | false =>
    rw [if_neg aq] at q7 ⊢
    exact again I7 q7
   | true =>
    rw [if_pos rfl] at q7 ⊢
    refine thn (hi2 cl H2.objs.size s H fp _ s7 σ6 H7 _ I7 q7) λv s8 h8=>thn h8 λitv s9 h9=>?_
    obtain ⟨it2,fp2,tn2,J2,H9,e,I9,T2,st9,f9,W2,⟨m2,w2⟩,turn2⟩:=h9
    subst e
    have stat2:∀{H':Hp},(∀b∈fp2,H' b=none)->∀b∈fp2,vN (X.block scope cl H2.objs.size N s H fp) ([]++xP fp s5.heap) H' b:=λhn b hb=>⟨hn b hb,(f9 b hb).2⟩
    have inner:cE (aA X.prog X.w) X.A (.compLoop (xm elt tg iter tg2 iter2 ifs ifs2 scope pos) 1 (.ref it2) (.ref s.heap.objs.size) (nZ scope cl H2.objs.size X.env)) (λr s'=>match r with | .ok _=>∃m,m<n/\∃i σ' H',Inv (X.block scope cl H2.objs.size N s H fp) [] σ' H' s'/\tn i s'.heap/\(∀b∈fp,H' b=none)/\W i m σ' H' | .error _=>False) s9:=by
     refine ZA (λn2 s'=>∃j σ' H',Inv (X.block scope cl H2.objs.size N s H fp) ([]++xP fp s5.heap) σ' H' s'/\tn2 j s'.heap/\(∀b∈fp2,H' b=none)/\W2 j n2 σ' H') ?_ m2 ⟨0,_,_,I9,st9,λb hb=>(f9 b hb).1,w2⟩
     rintro n2 s10 ⟨j,σ10,H10,I10,st10,fr10,w10⟩
     rcases turn2 j n2 σ10 H10 w10 with ⟨stop2,nx2⟩ | ⟨go2,NX2,hNX2,step2⟩
     ·refine thn (T2.done (X.block scope cl H2.objs.size N s H fp) rfl rfl rfl hc j _ s10 σ10 H10 _ I10 (stat2 fr10) st10 stop2) λr s11 ⟨hr,I11⟩=>?_
      subst hr
      exact again I11 nx2
     ·refine thn (T2.item (X.block scope cl H2.objs.size N s H fp) rfl rfl rfl hc j _ s10 σ10 H10 _ I10 (stat2 fr10) st10 go2) λr s11 ⟨u2,hr,h11⟩=>?_
      subst hr
      refine thn h11 λ_ s12 ⟨x2,H12,I12,r12,y12,st12,fr12⟩=>?_
      have I12':=I12.pinned (stat2 fr12) (T2.obj _ _ st12)
      refine thn (hg2 cl H2.objs.size s H fp _ s12 σ10 H12 x2 u2 _ I12' r12 (step2 x2 H12 y12)) λ_ s13 ⟨σ13,H13,I13,q13⟩=>?_
      refine thn (hif2 cl H2.objs.size s H fp _ s13 σ13 H13 _ I13 q13) λok2 s14 ⟨H14,I14,q14⟩=>?_
      have again2:∀{s15:Shared} {σ15:St} {H15:Hp},Inv (X.block scope cl H2.objs.size N s H fp) (([]++xP fp s5.heap)++xP fp2 s12.heap) σ15 H15 s15->NX2 σ15 H15->∃m,m<n2/\∃j σ' H',Inv (X.block scope cl H2.objs.size N s H fp) ([]++xP fp s5.heap) σ' H' s15/\tn2 j s15.heap/\(∀b∈fp2,H' b=none)/\W2 j m σ' H':=λ{s15 σ15 H15} I15 n15=>by
       obtain ⟨m',hm,w15⟩:=hNX2 σ15 H15 n15
       refine ⟨m',hm,j+1,σ15,H15,I15.unpinned,T2.keep _ _ _ st12 λb hb o e=>(I15.pin (b,o) (aF _ (aF _ (qB hb e)))).1,λb hb=>?_,w15⟩
       obtain ⟨o,e,d⟩:=T2.obj _ _ st12 b hb
       exact (I15.pin (b,o) (aF _ (aF _ (qB hb e)))).2.1
      cases ok2 with
      | false =>
       rw [if_neg aq] at q14 ⊢
       exact again2 I14 q14
      | true =>
       rw [if_pos rfl] at q14 ⊢
       refine thn (he cl H2.objs.size s H fp _ s14 σ13 H14 _ I14 q14) λv15 s15 ⟨y15,H15,I15,r15,ys,e15,z15,q15⟩=>?_
       refine thn (qv _ s15 σ13 H15 (.ref s.heap.objs.size) [y15] _ [v15] (λ_ H16=>NX2 σ13 H16) I15 rfl (.cons r15 .nil) ⟨_,ys,y15,rfl,rfl,e15,z15,q15⟩) λ_ s16 ⟨_,H16,I16,_,q16⟩=>?_
       exact again2 I16 q16
    exact Xw inner (T2.self _ 0 _ _ _ st9 inner)
 exact iM (loop _ rfl) (T.self _ 0 _ _ _ st1 (loop _ rfl))
theorem Zz {osc:Scope}{ON N:List Str}{scope:Scope}{own:Nat}{caps:List Nat}{tg elt iter tg2 iter2:Expr}{ifs ifs2:List Expr}{wi wi2:TI}{g g2:TG}{ti ti2:TT}{te:TE}(S:CompSc osc ON scope own N caps)
  (hc:X.calm=true) (hsc:X.env.scope=osc) (hN:X.N=ON) (hi:PI X tg iter wi)
  (hg:∀cl C s H ex,PG (X.block scope cl C N s H ex) tg g) (hif:∀cl C s H ex,gG (X.block scope cl C N s H ex) ifs ti) (hi2:∀cl C s H ex,PI (X.block scope cl C N s H ex) tg2 iter2 wi2) (hg2:∀cl C s H ex,PG (X.block scope cl C N s H ex) tg2 g2) (hif2:∀cl C s H ex,gG (X.block scope cl C N s H ex) ifs2 ti2) (he:∀cl C s H ex,PE (X.block scope cl C N s H ex) elt te)
  (hs:∀x,c3 iter X.env x=pure x:=by intro _;rfl) (hs2:∀env x,c3 iter2 env x=pure x:=by intro _ _;rfl):PE X (.ListComp elt [⟨tg,iter,ifs,0⟩,⟨tg2,iter2,ifs2,0⟩] scope pos) (VY own caps wi g ti wi2 g2 ti2 te):=by
 intro pins s σ H Q I h
 obtain ⟨cl,hclos,hcl⟩:=yE (JY S hsc I)
 rw [oC]
 refine dO (use:=none) rfl hs hclos S.kind S.loc (thn (hi pins s σ H _ I h) λv s1 h1=>thn h1 λitv s2 h2=>?_)
 obtain ⟨it,fp,tn,J,H2,e,I2,T,st2,f2,hw⟩:=h2
 subst e
 refine Z7 (RR:=λacc C=>oY (aA X.prog X.w) X.A X.xe none (EP X pins σ Q) acc C) hc S hsc hN hcl hg hif hi2 hg2 hif2 he hs2 I2 T st2 f2 hw λD C H' s' J1 B ⟨m,hm⟩ q=>?_
 exact ⟨m,hm,λh' hs'=>⟨.ref D,H',B.gone J1 hs',rfl,q⟩⟩
end
end L2
end
section
namespace L2
open PySem.W
structure CalM (P:Program) (w:aX) (K:ai) (mg:Str->Option ae) (base:Heap) (k:Nat) (C:Addr) (m:Str) (ps:List Str) (sp:Sp):Prop where
 ex:∃f fd,FnOk P w K mg base CX0 k f fd ps sp/\zP K fd ps []/\Meth K C m f
structure CalMX (P:Program) (w:aX) (K:ai) (mg:Str->Option ae) (base:Heap) (k:Nat) (C:Addr) (m:Str) (ps:List Str) (sp:Sp):Prop where
 ex:∃f fd,FnOk P w K mg base (CX1 P w) k f fd ps sp/\zP K fd ps []/\Meth K C m f
section
variable {X:Cx}{k:Nat}{f C:Addr}{fd:FuncData}{ps:List Str}{sp:Sp}{x m:Str}{p pos apos:Pos}{e o:Expr}{es:List Expr}{ta:TE}{t:TA}{J:ae->St->Hp->Prop}
theorem W1 {pins:List (Addr×Obj)}{σ:St}{H:Hp}{s:Shared}{Q:VK}{us:List ae}{vs:List V}(F:FnOk X.prog X.w X.K X.mg X.base (CX1 X.prog X.w) k f fd ps sp) (hr:Room k X.A) (hb:zP X.K fd ps []) (ac:Acc X J)
  (I:Inv X pins σ H s) (r:jz vs us) (h:sp vs H Q λcls _ H'=>J cls σ H'):ay (aA X.prog X.w) X.A (call (.ref f) us) (EP X pins σ Q) X.xe s:=by
 have hl:us.length=ps.length:=by rw [<- r.length];exact F.len _ _ _ _ h
 have hb':=hb s us I.kIn (by rw [br];exact hl)
 rw [br] at hb'
 refine iG (cU (F.run X.A X.stack s H ⟨us,[]⟩ us vs Q _ hr I.env0 hb' r h) λr s' hq=>?_)
 cases r with
 | error e =>
  obtain ⟨a,cls,H',rfl,os,b,u,ok,fy,j⟩:=hq
  exact ac pins σ H' s' a cls ⟨s,H,I,os,b,u,ok,fy⟩ j
 | ok fl =>
  cases fl with
  | ret u=>exact I.after hq
  | next=>exact bp hq
  | brk=>exact bp hq
  | cont=>exact bp hq
theorem pe_m {pl:Sem Bool}(he:PE X o ta) (c:Cls X.K C) (cm:CalM X.prog X.w X.K X.mg X.base k C m ps sp) (hr:Room k X.A) (ha:PA X (e::es) t)
  (hst:aK (e::es) X.env=(false,eval e X.env)::aK es X.env:=by rfl) (hpl:(ck pos (aK es X.env)).any (·.1)=false:=by rfl)
  (ht:eval (.Call (.Attribute o m apos) (e::es) [] pos) X.env=(do let ov <- eval o X.env;eE apos.atName;let (f,first) <- dQ [ov] (ik ov m pl);mj pos f first (ck pos (aK (e::es) X.env)) (fN pos (dz [] X.env))):=by rfl) :
  PE X (.Call (.Attribute o m apos) (e::es) [] pos) (Vg C m sp [] E0 ta t):=by
 obtain ⟨f,fd,F,hb,hm⟩:=cm.ex
 exact Vb he c hm F hr hb .nil Vp ha hst hpl ht
def U3 (C:Addr) (m:Str) (sp:Sp) (J:ae->St->Hp->Prop) (ta:TE) (t:TA):TE:=λσ H Q=>ta σ H λx H1=>∃a dx fs,x = .ref a/\H1 a=some (.ins C dx fs)/\fs.lookup m=none/\t σ H1 λvs H2=>sp (x::vs) H2 Q λcls _ H'=>J cls σ H'
theorem zp {pl:Sem Bool}(he:PE X o ta) (c:Cls X.K C) (cm:CalMX X.prog X.w X.K X.mg X.base k C m ps sp) (hr:Room k X.A) (ac:Acc X J) (ha:PA X (e::es) t)
  (hst:aK (e::es) X.env=(false,eval e X.env)::aK es X.env:=by rfl) (hpl:(ck pos (aK es X.env)).any (·.1)=false:=by rfl)
  (ht:eval (.Call (.Attribute o m apos) (e::es) [] pos) X.env=(do let ov <- eval o X.env;eE apos.atName;let (f,first) <- dQ [ov] (ik ov m pl);mj pos f first (ck pos (aK (e::es) X.env)) (fN pos (dz [] X.env))):=by rfl) :
  PE X (.Call (.Attribute o m apos) (e::es) [] pos) (U3 C m sp J ta t):=by
 obtain ⟨f,fd,F,hb,hm⟩:=cm.ex
 intro pins s σ H Q I h
 refine eV (pl:=pl) (thn (he pins s σ H _ I h) λu s1 ⟨x,H1,I1,rx,a,dx,fs,ex,ea,l,q⟩=>?_) ht
 subst ex
 obtain rfl:u=aZ a:=rx
 refine yX I1 ea c hm l ?_
 refine df (first:=[.ref a]) (h₀:=X.base) I.ok.mod.kin hm.kp (thn (ha pos pins s1 σ H1 _ I1 q) λus s2 ⟨vs,H2,I2,r,q2⟩=>⟨I2.kIn,?_⟩) hst hpl
 exact W1 (us:=.ref a::us) (vs:=.ref a::vs) F hr hb ac I2 (.cons rfl r) q2
structure MakX (P:Program) (w:aX) (K:ai) (mg:Str->Option ae) (base:Heap) (k:Nat) (C:Addr) (x:Str) (ps:List Str) (sp:Sp):Prop where
 ex:∃f fd,FnOk P w K mg base (CX1 P w) k f fd ps sp/\zP K fd ps []/\Mk K C f/\mg x=some (.ref C)
def VW (C:Addr) (sp:Sp) (J:ae->St->Hp->Prop) (t:TA):TE:=λσ H Q=>t σ H λvs H1=>∀x dx,H1 x=none->H1 dx=none->dx≠x ->
 sp (.ref x::vs) (upd (upd H1 dx (.own x)) x (.ins C dx [])) (λv H2=>v = .non/\Q (.ref x) H2) λcls _ H'=>J cls σ H'
theorem Yl (c:MakX X.prog X.w X.K X.mg X.base k C x ps sp) (hr:Room (k+1) X.A) (ac:Acc X J) (hg:Gl X x) (ha:PA X (e::es) t) (hdb:(x == ("__debug__" : Str))=false:=by decide) (he:aK (e::es) X.env=(false,eval e X.env)::aK es X.env:=by rfl) (hpl:(ck pos (aK es X.env)).any (·.1)=false:=by rfl) :
  PE X (.Call (.Name x p) (e::es) [] pos) (VW C sp J t):=by
 obtain ⟨f,fd,F,hb,M,hm⟩:=c.ex
 intro pins s0 σ H0 Q I0 h0
 refine cJ (vy I0 hg hm ?_ hdb)
 refine df (h₀:=X.base) I0.ok.mod.kin M.kp (thn (ha pos pins s0 σ H0 _ I0 h0) λus s ⟨vs,H,I,r,h⟩=>⟨I.kIn,?_⟩) he hpl
 have hq:=h (s.heap.objs.size+1) s.heap.objs.size (I.hok.fresh (dX _)) (I.hok.fresh (ao _)) (aB (fc _))
 have I2:=Inv.made (C:=C) I
 have r2:jz (V.ref (s.heap.objs.size+1)::vs) (aZ (s.heap.objs.size+1)::us):=.cons rfl r
 have hl:(aZ (s.heap.objs.size+1)::us).length=ps.length:=by rw [<- r2.length];exact F.len _ _ _ _ hq
 have hb':=hb { s with heap:=_ } (aZ (s.heap.objs.size+1)::us) I2.kIn (by rw [br];exact hl)
 rw [br] at hb'
 refine iG (Yk (f:=f) I.kIn M.makes M.init (beq_iff_eq.mp M.fn) (cU (F.run _ X.stack _ _ ⟨aZ (s.heap.objs.size+1)::us,[]⟩ (aZ (s.heap.objs.size+1)::us) _ _ _ (hr.make C us []) (I2.env0.make C us []) hb' r2 hq) λr s' hq'=>?_))
 cases r with
 | error e =>
  obtain ⟨a,cls,H',rfl,os,b,u,ok,fy,j⟩:=hq'
  exact ac pins σ H' s' a cls ⟨_,_,I2,os,b,u,ok,fy⟩ j
 | ok fl =>
  cases fl with
  | ret u =>
   obtain ⟨v,H',I3,rv,ev,q3⟩:=I2.after hq'
   subst ev
   exact ⟨rv,⟨V.ref (s.heap.objs.size+1),H',I3,rfl,q3⟩⟩
  | next=>exact bp hq'
  | brk=>exact bp hq'
  | cont=>exact bp hq'
theorem qY {f:Str}(K:ai) (he:PE X e ta) (hb:dJ e f X.env (eval e X.env)=eval e X.env:=by rfl) (hK:X.K=K:=by rfl):PE X (.Attribute e f pos) (Wb K ta f):=by subst hK;exact Vy he hb
theorem yY {f:Str}{value:Expr}{pos':Pos}{tv:TE}(K:ai) (ha:PE X o ta) (hv:PE X value tv) (hs:fJ value (some (.Attribute o f pos')) pos.line X.env=pure false:=by rfl) (hK:X.K=K:=by rfl):PS X (.Assign [.Attribute o f pos'] value pos) (Us K ta tv f):=by subst hK;exact Vw ha hv hs
end
theorem U7 {K:ai}{a acc:Addr}{xs:List V}{g2:TG}{ti2:TT}{te:TE}{NX:St->Hp->Prop}{σ:St}{H:Hp}(Pv:Nat->St->Hp->Prop) (h0:Pv 0 σ H) (hl:∀i σ H,i<=xs.length->Pv i σ H->SqT K H a xs)
  (hs:∀i x σ H,xs[i]? = some x->Pv i σ H->g2 x σ H λσ3 H3=>ti2 σ3 H3 λok H4=>if ok=true then te σ3 H4 λv H5=>∃ys,H5 acc=some (.lst ys)/\ys.length<sizeLine/\Pv (i+1) σ3 (upd H5 acc (.lst (ys++[v]))) else Pv (i+1) σ3 H4)
  (hd:∀σ H,Pv xs.length σ H->NX σ H):wu acc g2 ti2 te (Itt K a) NX σ H:=by
 refine ⟨λi m σ H=>m=xs.length-i/\i<=xs.length/\Pv i σ H,⟨xs.length,by simp,aJ _,h0⟩,λi m σ H z=>?_⟩
 obtain ⟨rfl,hi,p⟩:=z
 have q:=hl i σ H hi p
 by_cases hlt:i<xs.length
 ·refine .inr ⟨⟨xs,xs[i],q,by simp [hlt]⟩,Pv (i+1),λσ' H' p'=>⟨xs.length-(i+1),∅,rfl,hlt,p'⟩,λx H' y=>?_⟩
  obtain ⟨e,y⟩:=y
  subst e
  exact hs i x σ _ (y xs q) p
 ·obtain rfl:i=xs.length:=∅
  exact .inl ⟨⟨xs,q,ao _⟩,hd σ H p⟩
theorem Xx {K:ai}{a acc:Addr}{xs:List V}{g g2:TG}{ti ti2:TT}{wi2:TI}{te:TE}{R:Hp->Prop}{σ:St}{H:Hp}(Pv:Nat->St->Hp->Prop) (h0:Pv 0 σ H) (hl:∀i σ H,i<=xs.length->Pv i σ H->SqT K H a xs)
  (hs:∀i x σ H,xs[i]? = some x->Pv i σ H->g x σ H λσ3 H3=>ti σ3 H3 λok H4=>if ok=true then wi2 σ3 H4 λJ2 H5=>wu acc g2 ti2 te J2 (Pv (i+1)) σ3 H5 else Pv (i+1) σ3 H4)
  (hd:∀σ H,Pv xs.length σ H->R H) :
  ∃W:Nat->Nat->St->Hp->Prop,(∃m,W 0 m σ H)/\∀i m σ' H',W i m σ' H' ->
   ((Itt K a).stop i H'/\R H')\/((Itt K a).go i H'/\∃NX:St->Hp->Prop,(∀σ2 H2,NX σ2 H2->∃m',m'<m/\W (i+1) m' σ2 H2) /\
    ∀x H2,(Itt K a).yld i H' x H2->g x σ' H2 λσ3 H3=>ti σ3 H3 λok H4=>if ok=true then wi2 σ3 H4 λJ2 H5=>wu acc g2 ti2 te J2 NX σ3 H5 else NX σ3 H4):=by
 refine ⟨λi m σ H=>m=xs.length-i/\i<=xs.length/\Pv i σ H,⟨xs.length,by simp,aJ _,h0⟩,λi m σ H z=>?_⟩
 obtain ⟨rfl,hi,p⟩:=z
 have q:=hl i σ H hi p
 by_cases hlt:i<xs.length
 ·refine .inr ⟨⟨xs,xs[i],q,by simp [hlt]⟩,Pv (i+1),λσ' H' p'=>⟨xs.length-(i+1),∅,rfl,hlt,p'⟩,λx H' y=>?_⟩
  obtain ⟨e,y⟩:=y
  subst e
  exact hs i x σ _ (y xs q) p
 ·obtain rfl:i=xs.length:=∅
  exact .inl ⟨⟨xs,q,ao _⟩,hd σ H p⟩
theorem hV {X:Cx}:Acc X λ_ _ _=>False:=λ_ _ _ _ _ _ _ z=>z.elim
end L2
end
section
namespace L2
open PySem.W
inductive gN (K:ai) (n:Str) (s:Stmt):Prop
 | mk {f:Addr} {oc kV dc pm cd ct:ae} {od an:Option Addr} {sl:Array (Option ae)} (a:nsIn K mainGlobals n=some (some (.ref f))) (l:K.lookup f=some ⟨oc,od,.func (fnOf n n (jP s) (jH s) (j8 s) .none kV dc pm an cd ct),sl⟩) (c:codeIn K cd n=true) (k:keepIn K (.ref f)=true)
inductive gM (K:ai) (C:Addr) (m q:Str) (s:Stmt):Prop
 | mk {f:Addr} {oc kV dc pm cd ct:ae} {od an:Option Addr} {sl:Array (Option ae)} (a:findIn K (.ref C) m=some (some (.ref f))) (i:isFn K (.ref f)=true) (l:K.lookup f=some ⟨oc,od,.func (fnOf m q (jP s) (jH s) (j8 s) .none kV dc pm an cd ct),sl⟩) (c:codeIn K cd q=true) (k:keepIn K (.ref f)=true)
structure gE (K:ai) (n:Str) (C:Addr):Prop where
 e:nsIn K mainGlobals n=some (some (.ref C))
 x:excIn K C [.type "ValueError",.type "Exception",.type "BaseException",.type "object"] "ValueError.__new__" = true
 m:exmOne K (.ref C) (.ref C)=some true
abbrev gB (x q:Str) (st:Stmt) (ps:List Str):Prop:=∀(kV doc pm:ae) (an:Option Addr) (cdv ct:ae) (us:List ae),us.length=ps.length->c5 (fnOf x q (jP st) (jH st) (j8 st) .none kV doc pm an cdv ct) ⟨us,[]⟩=pure (ps.zip us)
inductive Zt (P:Program) (w:aX) (K:ai) (mg:Str->Option ae) (base:Heap):Prop
 | mk {h:Heap} (X:K.In h) (G:h.Ns mainGlobals mg)
section
variable {P:Program}{w:aX}{K:ai}{mg:Str->Option ae}{base:Heap}{k:Nat}{x q:Str}{ps:List Str}{sp:Sp}{st:Stmt}{C:Addr}
theorem gN.cal (a:gN K x st) (z:Zt P w K mg base) (hb:gB x x st ps)
  (ok:∀{f:Addr} {fd:FuncData},Fun K x x st f fd->FnOk P w K mg base CX0 k f fd ps sp):Cal P w K mg base k x ps sp:=by
 obtain ⟨a,l,c,k'⟩:=a
 obtain ⟨X,G⟩:=z
 exact Cal.mk' X G a l c k' hb ok
theorem gN.calX (a:gN K x st) (z:Zt P w K mg base) (hb:gB x x st ps)
  (ok:∀{f:Addr} {fd:FuncData},Fun K x x st f fd->FnOk P w K mg base (CX1 P w) k f fd ps sp):CalX P w K mg base k x ps sp:=by
 obtain ⟨a,l,c,k'⟩:=a
 obtain ⟨X,G⟩:=z
 exact CalX.mk' X G a l c k' hb ok
theorem gM.cal (a:gM K C x q st) (z:Zt P w K mg base) (hb:gB x q st ps)
  (ok:∀{f:Addr} {fd:FuncData},Fun K x q st f fd->FnOk P w K mg base CX0 k f fd ps sp):CalM P w K mg base k C x ps sp:=by
 obtain ⟨a,i,l,c,k'⟩:=a
 have F:=yG (st:=st) l c k'
 exact ⟨_,_,ok F,F.binds hb,⟨a,i,k'⟩⟩
theorem gM.calX (a:gM K C x q st) (z:Zt P w K mg base) (hb:gB x q st ps)
  (ok:∀{f:Addr} {fd:FuncData},Fun K x q st f fd->FnOk P w K mg base (CX1 P w) k f fd ps sp):CalMX P w K mg base k C x ps sp:=by
 obtain ⟨a,i,l,c,k'⟩:=a
 have F:=yG (st:=st) l c k'
 exact ⟨_,_,ok F,F.binds hb,⟨a,i,k'⟩⟩
theorem gM.mak {y:Str}(a:gM K C "__init__" q st) (z:Zt P w K mg base) (m:makesIn K C=true) (kc:keepIn K (.ref C)=true) (n:nsIn K mainGlobals y=some (some (.ref C))) (hb:gB "__init__" q st ps)
  (ok:∀{f:Addr} {fd:FuncData},Fun K "__init__" q st f fd->FnOk P w K mg base (CX1 P w) k f fd ps sp):MakX P w K mg base k C y ps sp:=by
 obtain ⟨a,i,l,c,k'⟩:=a
 obtain ⟨X,G⟩:=z
 have F:=yG (st:=st) l c k'
 exact ⟨_,_,ok F,F.binds hb,⟨m,a,i,kc⟩,mg_of X G n⟩
end
theorem bnd1 {fd:FuncData}{ps:List Str}{us:List ae}(hl:us.length=1) (h:∀a,c5 fd ⟨[a],[]⟩=pure (ps.zip [a])):c5 fd ⟨us,[]⟩=pure (ps.zip us):=match us,hl with | [a],_=>h a
theorem bnd2 {fd:FuncData}{ps:List Str}{us:List ae}(hl:us.length=2) (h:∀a b,c5 fd ⟨[a,b],[]⟩=pure (ps.zip [a,b])):c5 fd ⟨us,[]⟩=pure (ps.zip us):=match us,hl with | [a,b],_=>h a b
theorem bnd3 {fd:FuncData}{ps:List Str}{us:List ae}(hl:us.length=3) (h:∀a b c,c5 fd ⟨[a,b,c],[]⟩=pure (ps.zip [a,b,c])):c5 fd ⟨us,[]⟩=pure (ps.zip us):=match us,hl with | [a,b,c],_=>h a b c
theorem bnd4 {fd:FuncData}{ps:List Str}{us:List ae}(hl:us.length=4) (h:∀a b c d,c5 fd ⟨[a,b,c,d],[]⟩=pure (ps.zip [a,b,c,d])):c5 fd ⟨us,[]⟩=pure (ps.zip us):=match us,hl with | [a,b,c,d],_=>h a b c d
theorem bnd5 {fd:FuncData}{ps:List Str}{us:List ae}(hl:us.length=5) (h:∀a b c d e,c5 fd ⟨[a,b,c,d,e],[]⟩=pure (ps.zip [a,b,c,d,e])):c5 fd ⟨us,[]⟩=pure (ps.zip us):=match us,hl with | [a,b,c,d,e],_=>h a b c d e
theorem bnd6 {fd:FuncData}{ps:List Str}{us:List ae}(hl:us.length=6) (h:∀a b c d e f,c5 fd ⟨[a,b,c,d,e,f],[]⟩=pure (ps.zip [a,b,c,d,e,f])):c5 fd ⟨us,[]⟩=pure (ps.zip us):=match us,hl with | [a,b,c,d,e,f],_=>h a b c d e f
end L2
end
section
namespace L2
open PySem.W
end L2
end
section
namespace L2
end L2
namespace L2
section
variable (P:Program) (w:aX)
end
section
variable {P:Program}{w:aX}{H H':Hp}{h h':Heap}{a:Addr}{o:HO}
end
section
variable {P:Program}{w:aX}{H:Hp}{h h':Heap}{x e:Addr}{o':HO}
end
section
variable {fs fs' ex ex':List Addr}{H H1 H2:Hp}{h h1 h2 h':Heap}{a x e:Addr}{o:HO}
end
end L2
namespace L2
section
variable {X:Cx}{pins:List (Addr×Obj)}{σ:List (Option V)}{H H':Hp}{s:Shared}{h':Heap}
end
end L2
namespace L2
section
variable {X:Cx}
variable {a b:Expr}{ta tb:TE}{pos:Pos}
variable {tA tB':TT}{zw:List Expr}
end
end L2
namespace L2
section
variable {X:Cx}{pins:List (Addr×Obj)}{σ:St}{H:Hp}{s:Shared}{a:Addr}{xs ys:List V}
end
section
variable {X:Cx}{pins:List (Addr×Obj)}{σ:St}{H:Hp}{s:Shared}{E:ae->Shared->Prop}
end
section
variable {X:Cx}{st:Stmt}{zw:List Stmt}{t u:TS}{e:Expr}{te:TE}{pos:Pos}
end
section
variable {X:Cx}{pos:Pos}
end
section
variable {X:Cx}{pos:Pos}
end
end L2
namespace L2
section
variable {X:Cx}{tg:Expr}
end
end L2
namespace L2
section
variable {X:Cx}{a b c:Expr}{ta tb tc:TE}{pos:Pos}
end
section
variable {X:Cx}{a b c:Expr}{ta tb tc:TE}{pos:Pos}
end
end L2
namespace L2
section
variable {prog:Program}{w:aX}{A:bg}{E:ae->Shared->Prop}{s:Shared}{K:ai}{x dx C f:Addr}{mA:Str->Option ae}{name:Str}{v:ae}
end
section
variable {P:Program}{w:aX}{H H':Hp}{h h':Heap}{a C dx:Addr}{fs fs':List (Str×V)}
end
section
variable {X:Cx}{pins:List (Addr×Obj)}{σ:St}{H:Hp}{s:Shared}{a C dx:Addr}{fs:List (Str×V)}{f:Str}{v:V}{A:bg}{E:ae->Shared->Prop}
end
section
variable {X:Cx}{o e value:Expr}{f:Str}{pos pos' tpos:Pos}{ta tv:TE}
end
section
variable {X:Cx}{pins:List (Addr×Obj)}{σ:St}{H:Hp}{s:Shared}{A:bg}{E:ae->Shared->Prop}{Q:ae->Shared->Prop}{c:ae}{b:Bool}
end
end L2
namespace L2
section
variable {X:Cx}{e:Expr}{es:List Expr}{te:TE}{t:TA}{pos:Pos}
end
section
variable {X:Cx}{pins:List (Addr×Obj)}{σ:St}{H:Hp}{s s':Shared}
end
section
variable {X:Cx}{CX:CXT}{k:Nat}{f C:Addr}{fd:FuncData}{ps:List Str}{sp:Sp}{dvs:List V}{ds:List ae}{E:XK}{x m:Str}{p pos apos:Pos}{e o:Expr}{es:List Expr}{ta:TE}{t:TA}
end
section
variable {X:Cx}{CX:CXT}{k:Nat}{f C:Addr}{fd:FuncData}{ps ks:List Str}{sp:Sp}{E:XK}{x m:Str}{p pos apos kpos:Pos}{e o:Expr}{es:List Expr}{kws:List iH}{te ta:TE}{t tk:TA}{nm:Option Str}
variable {g:List ae->List ae->List ae}{gV:List V->List V->List V}
end
end L2
namespace L2
section
variable {X:Cx}{x:Str}{p pos:Pos}{e:Expr}{es:List Expr}{t:TA}{id T:String}{r:List V->Hp->VK->Prop}
end
end L2
namespace L2
section
variable {κ:Type} [DecidableEq κ]
def qy (kvs:List (κ×V)) (k:κ):Option V:=(kvs.find? λkv=>decide (kv.1=k)).map (·.2)
def qf (kvs:List (κ×V)) (k:κ) (v:V):List (κ×V) :=
 if (kvs.any λkv=>decide (kv.1=k))=true then kvs.map (λkv=>if kv.1=k then (kv.1,v) else kv) else kvs++[(k,v)]
theorem zS {k:κ}:qy ([]:List (κ×V)) k=none:=rfl
theorem wC {p:κ×V}{r:List (κ×V)}{k:κ}(e:p.1=k):qy (p::r) k=some p.2:=by simp [qy,dm,e]
theorem uX {p:κ×V}{r:List (κ×V)}{k:κ}(e:¬p.1=k):qy (p::r) k=qy r k:=by simp [qy,dm,e]
theorem wb (k:κ):∀kvs:List (κ×V),(kvs.any λkv=>decide (kv.1=k))=(qy kvs k).isSome
 | []=>rfl
 | p::r=>by
  rw [dM]
  by_cases e:p.1=k
  ·simp only [wC e,decide_eq_true e,Bool.true_or,Option.isSome_some]
  ·rw [uX e,decide_eq_false e,Bool.false_or];exact wb k r
theorem y4 (kvs:List (κ×V)) (k:κ) (v:V):(qf kvs k v).length<=kvs.length+1:=by
 unfold qf
 split
 ·rw [af];omega
 ·rw [av,ba,fC];omega
theorem ya {kvs:List (κ×V)}{k:κ}(v:V) (h:qy kvs k=none):qf kvs k v=kvs++[(k,v)]:=by
 unfold qf
 rw [wb,h]
 exact if_neg ⋯
theorem zQ.isSome_eq {o:Option V}{u:Option ae}(r:zQ o u):o.isSome=u.isSome:=by
 cases o with
 | none=>cases u with
  | none=>rfl
  | some _=>exact (show False from r).elim
 | some _=>cases u with
  | none=>exact (show False from r).elim
  | some _=>rfl
theorem zQ.getD {o:Option V}{u:Option ae}{d:V}{d':ae}(r:zQ o u) (rd:jA d d'):jA (o.getD d) (u.getD d'):=by
 cases o with
 | none=>cases u with
  | none=>exact rd
  | some _=>exact (show False from r).elim
 | some _=>cases u with
  | none=>exact (show False from r).elim
  | some _=>exact r
theorem KV.val {kvs:List (κ×V)}{vs:List (κ×ae)}(r:KV kvs vs) (k:κ):zQ (qy kvs k) (lI vs k):=by
 unfold KV at r
 induction r with
 | nil=>exact cA
 | @cons p q ps qs h t ih =>
  obtain ⟨h1,h2⟩:=h
  by_cases e:p.1=k
  ·have e':q.1=k:=h1.symm.trans e
   have b:lI (q::qs) k=some q.2:=by simp [lI,dm,e']
   rw [wC e,b];exact h2
  ·have e':¬q.1=k:=λz=>e (h1.trans z)
   have b:lI (q::qs) k=lI qs k:=by simp [lI,dm,e']
   rw [uX e,b];exact ih
theorem KV.any {kvs:List (κ×V)}{vs:List (κ×ae)}(r:KV kvs vs) (k:κ):(kvs.any λkv=>decide (kv.1=k))=vs.any λkv=>decide (kv.1=k):=by
 unfold KV at r
 induction r with
 | nil=>rfl
 | cons h t ih=>rw [dM,dM,ih,h.1]
theorem KV.repl {kvs:List (κ×V)}{vs:List (κ×ae)}(r:KV kvs vs) (k:κ) {y:V}{u:ae}(ry:jA y u) :
  KV (kvs.map λkv=>if kv.1=k then (kv.1,y) else kv) (vs.map λkv=>if kv.1=k then (kv.1,u) else kv):=by
 unfold KV at r ⊢
 induction r with
 | nil=>exact .nil
 | @cons p q ps qs h t ih =>
  rw [aH,aH]
  refine .cons ?_ ih
  obtain ⟨h1,h2⟩:=h
  by_cases e:p.1=k
  ·rw [if_pos e,if_pos (h1.symm.trans e)];exact ⟨h1,ry⟩
  ·rw [if_neg e,if_neg (λz=>e (h1.trans z))];exact ⟨h1,h2⟩
theorem KV.put {kvs:List (κ×V)}{vs:List (κ×ae)}(r:KV kvs vs) (k:κ) {y:V}{u:ae}(ry:jA y u):KV (qf kvs k y) (oO vs k u):=by
 unfold qf oO
 rw [r.any k]
 by_cases e:(vs.any λkv=>decide (kv.1=k))=true
 ·rw [if_pos e,if_pos e];exact r.repl k ry
 ·rw [if_neg e,if_neg e];exact cu r ⟨rfl,ry⟩
theorem KV.length {kvs:List (κ×V)}{vs:List (κ×ae)}(r:KV kvs vs):kvs.length=vs.length:=aP r
end
theorem wX {P:Program}{w:aX}{k:Key}{u:ae}(r:jA (kV k) u):(jy P w).is k u=true:=by
 cases k with
 | inl i=>obtain ⟨t,e⟩:=(show ∃t,u=ib i t from r);subst e;exact Jr P w i t
 | inr x=>obtain ⟨t,e⟩:=(show ∃t,u=lE x t from r);subst e;exact Jo P w x t
theorem kA {P:Program}{w:aX}:∀{ks:List Key}{us:List ae},jz (ks.map kV) us->ItemsAre (jy P w) ks us
 | [],_,r=>by rw [dG] at r;cases r;exact .nil
 | k::ks,_,r=>by
  rw [aH] at r
  cases r with
  | cons h t=>exact .cons (wX h) (kA t)
abbrev KT (H:Hp):List (List Key×V)->List (List Key×Addr×ae)->Prop:=cf λp q=>p.1=q.1/\H q.2.1=some (.tup (p.1.map kV))/\jA p.2 q.2.2
theorem KT.val {H:Hp}{kvs:List (List Key×V)}{xs:List (List Key×Addr×ae)}(r:KT H kvs xs) (k:List Key):zQ (qy kvs k) ((mZ xs k).map (·.2)):=by
 induction r with
 | nil=>exact cA
 | @cons p q ps qs h t ih =>
  obtain ⟨h1,_,h2⟩:=h
  by_cases e:p.1=k
  ·have e':q.1=k:=h1.symm.trans e
   have b:mZ (q::qs) k=some q.2:=by simp [mZ,dm,e']
   rw [wC e,b];exact h2
  ·have e':¬q.1=k:=λz=>e (h1.trans z)
   have b:mZ (q::qs) k=mZ qs k:=by simp [mZ,dm,e']
   rw [uX e,b];exact ih
theorem KT.repl {H:Hp}{kvs:List (List Key×V)}{xs:List (List Key×Addr×ae)}(r:KT H kvs xs) (k:List Key) {y:V}{u:ae}(ry:jA y u) :
  KT H (kvs.map λkv=>if kv.1=k then (kv.1,y) else kv) (xs.map (putAt k u)):=by
 induction r with
 | nil=>exact .nil
 | @cons p q ps qs h t ih =>
  rw [aH,aH]
  refine .cons ?_ ih
  obtain ⟨h1,h2,h3⟩:=h
  unfold putAt
  by_cases e:p.1=k
  ·rw [if_pos e,if_pos (h1.symm.trans e)];exact ⟨h1,h2,ry⟩
  ·rw [if_neg e,if_neg (λz=>e (h1.trans z))];exact ⟨h1,h2,h3⟩
theorem KT.put {H:Hp}{kvs:List (List Key×V)}{xs:List (List Key×Addr×ae)}(r:KT H kvs xs) (k:List Key) {b:Addr}{y:V}{u:ae}(hb:H b=some (.tup (k.map kV))) (ry:jA y u) :
  KT H (qf kvs k y) (storedH xs k b u):=by
 have e:(kvs.any λkv=>decide (kv.1=k))=(mZ xs k).isSome:=by
  rw [wb,(r.val k).isSome_eq,Option.isSome_map]
 unfold qf storedH
 rw [e]
 by_cases q:(mZ xs k).isSome=true
 ·rw [if_pos q,if_pos q];exact r.repl k ry
 ·rw [if_neg q,if_neg q];exact cu r ⟨rfl,hb,ry⟩
theorem KT.keeps {H H':Hp}{kvs:List (List Key×V)}{xs:List (List Key×Addr×ae)}(r:KT H kvs xs) (ht:∀b ys,H b=some (.tup ys)->H' b=some (.tup ys)):KT H' kvs xs :=
 Paired.mapP r λ_ _ z=>⟨z.1,ht _ _ z.2.1,z.2.2⟩
section
variable {P:Program}{w:aX}{H:Hp}{h:Heap}{a:Addr}
theorem Vh {u:HO}(ok:HOk P w H h) (e:Rd H a u):jY P w H h a u:=e.ok ok
theorem yA {kvs:List (Key×V)}(ok:HOk P w H h) (e:Rd H a (.dK kvs)):kvs.length<=sizeLine/\(a == de)=false/\∃vs,KV kvs vs/\h.DictOf (jy P w) a vs :=
 show jY P w H h a (.dK kvs) from Vh ok e
theorem Yi {kvs:List (Key×V)}(ok:HOk P w H h) (e:H a=some (.dK kvs)):kvs.length<=sizeLine/\(a == de)=false/\∃vs,KV kvs vs/\h.DictOf (jy P w) a vs:=yA ok (.inl e)
theorem kY {ks:List Key}(ok:HOk P w H h) (e:H a=some (.tup (ks.map kV))):(ie (jy P w)).is h ks a:=by
 obtain ⟨_,its,r,o,h1,h2,n,h3⟩:=(show jY P w H h a (.tup (ks.map kV)) from ok a _ e)
 exact ⟨o,its.toArray,n,h1,h2,h3,by simpa using kA r⟩
theorem Ji {kvs:List (List Key×V)}(ok:HOk P w H h) (e:Rd H a (.dT kvs)):kvs.length<=sizeLine/\(a == de)=false /\
  ∃xs,KT H kvs xs/\h.DictOfH (ie (jy P w)) a xs:=by
 obtain ⟨z,y,xs,r,o,es,ep,h1,h2,h3,h4,h5⟩:=(show jY P w H h a (.dT kvs) from Vh ok e)
 refine ⟨z,y,xs,r,o,es,ep,h1,h2,h3,h4,λx hx=>?_,h5⟩
 have all:∀{l:List (List Key×V)} {m:List (List Key×Addr×ae)},KT H l m->∀x∈m,(ie (jy P w)).is h x.1 x.2.1:=by
  intro l m q
  induction q with
  | nil=>intro x hx;exact nomatch hx
  | @cons p q ps qs hq t ih =>
   intro x hx
   rcases List.mem_cons.mp hx with e | hx
   ·subst e
    exact kY ok (by rw [<- hq.1];exact hq.2.1)
   ·exact ih x hx
 exact all r x hx
theorem Ux {kvs:List (List Key×V)}(ok:HOk P w H h) (e:H a=some (.dT kvs)):kvs.length<=sizeLine/\(a == de)=false /\
  ∃xs,KT H kvs xs/\h.DictOfH (ie (jy P w)) a xs:=Ji ok (.inl e)
end
def qP (H:Hp) (a:Addr) (y:V) (r:Option V):Prop :=
 (∃kvs k,Rd H a (.dK kvs)/\y=kV k/\r=qy kvs k)\/∃kvs k b,Rd H a (.dT kvs)/\y = .ref b/\H b=some (.tup (k.map kV))/\r=qy kvs k
def vx (H:Hp) (a:Addr) (y v:V) (H':Hp):Prop :=
 (∃kvs k,H a=some (.dK kvs)/\y=kV k/\kvs.length<sizeLine/\H'=upd H a (.dK (qf kvs k v))) \/
 ∃kvs k b,H a=some (.dT kvs)/\y = .ref b/\H b=some (.tup (k.map kV))/\kvs.length<sizeLine/\H'=upd H a (.dT (qf kvs k v))
theorem qP.k {H:Hp}{a:Addr}{kvs:List (Key×V)}{k:Key}(e:H a=some (.dK kvs)):qP H a (kV k) (qy kvs k):=.inl ⟨kvs,k,.inl e,rfl,rfl⟩
theorem vx.k {H:Hp}{a:Addr}{kvs:List (Key×V)}{k:Key}{v:V}(e:H a=some (.dK kvs)) (hl:kvs.length<sizeLine):vx H a (kV k) v (upd H a (.dK (qf kvs k v))):=.inl ⟨kvs,k,e,rfl,hl,rfl⟩
section
variable {X:Cx}{pins:List (Addr×Obj)}{σ:St}{H:Hp}{s:Shared}{a:Addr}{y v:V}{u r:ae}{o:Option V}{A:bg}{E:ae->Shared->Prop}
theorem Inv.big (I:Inv X pins σ H s):de<s.heap.objs.size:=by
 have h:mainGlobals<s.heap.objs.size:=(I.mod.glob.keeps I.bk).lt
 exact Nat.lt_trans ⋯ h
theorem Xv {Q:ae->Shared->Prop}(hu:A.units+1<cLine) (I:Inv X pins σ H s) (g:qP H a y (some v)) (ry:jA y u) (h:∀w' s',Inv X pins σ H s'->jA v w'->Q w' s') :
  ay (aA X.prog X.w) A (iI (.ref a) u) Q E s:=by
 rcases g with ⟨kvs,k,e,ey,l⟩ | ⟨kvs,k,b,e,ey,eb,l⟩
 ·subst ey
  obtain ⟨z,hd,vs,rel,dd⟩:=yA I.hok e
  obtain ⟨w',hw,rw'⟩:=zQ.some_of (v:=v) (o:=lI vs k) (by rw [l];exact rel.val k)
  exact wpAny_getItem_of (wX ry) dd.mapOf hw (h w' _ (I.tok _) rw')
 ·subst ey
  cases (show u=aZ b from ry)
  obtain ⟨z,hd,xs,rel,dd⟩:=Ji I.hok e
  obtain ⟨w',hw,rw'⟩:=zQ.some_of (v:=v) (o:=(mZ xs k).map (·.2)) (by rw [l];exact rel.val k)
  obtain ⟨p,hp,hp2⟩:=Option.map_eq_some_iff.mp hw
  refine wpAny_getItem_heap (fU hu) (kY I.hok eb) dd hp ?_
  rw [hp2]
  exact h w' _ (I.tok _) rw'
theorem gO {h':Heap}{t':Nat}{ob:HO}(I:Inv X pins σ H s) (mu:Mut (H a)) (hs:fH a s.heap h') (he:∃q,h'.get? a=some q) (new:jY X.prog X.w (upd H a ob) h' a ob) :
  Inv X pins σ (upd H a ob) { s with heap:=h',toks:=t' } :=
 I.write (x:=a) (e:=a) mu (.inl rfl) (λb q hb z=>(hs.2 b hb).trans z) he new
theorem gP {P:Program}{w:aX}{H':Hp}{h':Heap}{kvs:List (Key×V)}{vs:List (Key×ae)}(z:kvs.length<=sizeLine) (hd:(a == de)=false) (rel:KV kvs vs) (dd:h'.DictOf (jy P w) a vs) :
  jY P w H' h' a (.dK kvs):=⟨z,hd,vs,rel,dd⟩
theorem Zk {H':Hp}{Q:Unit->Shared->Prop}(hu:A.units+1<cLine) (I:Inv X pins σ H s) (g:vx H a y v H') (ry:jA y u) (rv:jA v r) (h:∀s',Inv X pins σ H' s'->Q () s') :
  ay (aA X.prog X.w) A (setItem (.ref a) u r) Q E s:=by
 rcases g with ⟨kvs,k,e,ey,l,eH⟩ | ⟨kvs,k,b,e,ey,eb,l,eH⟩
 ·subst ey eH
  obtain ⟨z,hd,vs,rel,dd⟩:=Yi I.hok e
  have hz:vs.length<=sizeLine:=by rw [<- rel.length];exact z
  have hl:(qf kvs k v).length<=sizeLine:=by have:=y4 kvs k v;omega
  refine wpAny_setItem_pairs (hsz:=hz) (wX ry) dd λh' dd' hs=>h _ ?_
  have he:∃q,h'.get? a=some q:=let ⟨q,_,_,hq,_⟩:=dd';⟨q,hq⟩
  exact gO I (by rw [e];exact cA) hs he (gP hl hd (rel.put k rv) dd')
 ·subst ey eH
  cases (show u=aZ b from ry)
  obtain ⟨z,hd,xs,rel,dd⟩:=Ux I.hok e
  have hz:xs.length<=sizeLine:=by rw [<- aP rel];exact z
  have hl:(qf kvs k v).length<=sizeLine:=by have:=y4 kvs k v;omega
  refine wpAny_setItem_heap (hsz:=hz) (fU hu) (kY I.hok eb) dd λh' dd' hs=>h _ ?_
  obtain ⟨q,es,ep,hq,h2,h3,h4,_,h5⟩:=dd'
  refine gO I (by rw [e];exact cA) hs ⟨q,hq⟩ ⟨hl,hd,_,(rel.put k eb rv).keeps λc ys ec=>?_,q,es,ep,hq,h2,h3,h4,h5⟩
  rw [j5 (jh ec e (λz=>nomatch z))]
  exact ec
end
section
variable {X:Cx}{pins:List (Addr×Obj)}{σ:St}{H:Hp}{s:Shared}{a:Addr}{kvs:List (Key×V)}{k:Key}{u:ae}{A:bg}{E:ae->Shared->Prop}
theorem UK {Q:ae->Shared->Prop}(I:Inv X pins σ H s) (e:Rd H a (.dK kvs)) (h:∀t s',Inv X pins σ H s'->Q (.int kvs.length t) s'):ay (aA X.prog X.w) A (call (.builtin "len") [.ref a]) Q E s:=by
 obtain ⟨z,hd,vs,rel,dd⟩:=yA I.hok e
 refine call_len_dict hd dd (by rw [<- rel.length];rw [bu] at z;omega) ?_
 rw [<- rel.length]
 exact h _ _ (I.tok _)
end
def US (i:Expr):Prop:=∀ov iv,lp i false ov iv=operate [ov,iv] (iI ov iv)
theorem YV {prog:Program}{w:aX}{A:bg}{E:ae->Shared->Prop}{s:Shared}{env:Env}{value slice:Expr}{pos:Pos}{T id:String}{Q:ae->Shared->Prop}
  (hl:nX (.type T) "__getitem__" = pure (some (.builtin id))) (hs:US slice)
  (h:ay (aA prog w) A (eval value env) (λo s₁=>ay (aA prog w) A (eval slice env) (λi s₂=>s₂.TypeIs o T/\ay (aA prog w) A (iI o i) Q E s₂) E s₁) E s) :
  ay (aA prog w) A (eval (.Subscript value slice pos) env) Q E s:=by
 refine iJ (aV h (λo s₁ h₁=>aV h₁ (λi s₂ h₂=>?_) λ_ _ x=>x) λ_ _ x=>x)
 obtain ⟨hT,h₂⟩:=h₂
 unfold fg
 refine ah ?_
 rw [getitemInPython_of_ne hT.not_modules]
 refine ah (wpAny_specialOf hT hl ?_)
 have fin:ay (aA prog w) A (lp slice false o i) (λr s₃=>ay (aA prog w) A (letTemporaryGo value o r >>= λ_=>pure r) Q E s₃) E s₂:=by
  rw [hs o i]
  exact wpAny_operating (aV h₂ (λr s₃ h₃=>ah (wpAny_letTemporaryGo (wpAny_pure h₃))) λ_ _ x=>x)
 first
  | exact wpAny_pure (ah fin)
  | exact ah (wpAny_pure (ah fin))
  | exact ah fin
theorem J0 {X:Cx}{pins:List (Addr×Obj)}{σ:St}{H:Hp}{s:Shared}{a:Addr}{y:V}{o:Option V}(I:Inv X pins σ H s) (g:qP H a y o):s.TypeIs (.ref a) "dict":=by
 rcases g with ⟨kvs,k,e,_,_⟩ | ⟨kvs,k,b,e,_,_,_⟩
 ·obtain ⟨_,_,vs,_,dd⟩:=yA I.hok e
  exact dd.typeIs
 ·obtain ⟨_,_,xs,_,dd⟩:=Ji I.hok e
  exact dd.typeIs
def UN (td ty:TE):TE:=λσ H Q=>td σ H λx H1=>ty σ H1 λy H2=>∃a v,x = .ref a/\qP H2 a y (some v)/\Q v H2
def Uy (td ty tv:TE):TS:=λD σ H=>tv σ H λv H1=>td σ H1 λx H2=>ty σ H2 λy H3=>∃a H4,x = .ref a/\vx H3 a y v H4/\D.nx σ H4
section
variable {X:Cx}{o i e value:Expr}{pos pos' tpos:Pos}{td ty tv:TE}
theorem jC (hu:X.A.units+1<cLine) (ho:PE X o td) (hi:PE X i ty) (hs:US i):PE X (.Subscript o i pos) (UN td ty):=by
 intro pins s σ H Q I h
 refine YV PySem.F.slot_dict_getitem.lookup hs (thn (ho pins s σ H _ I h) λu s1 ⟨x,H1,I1,rx,q1⟩=>thn (hi pins s1 σ H1 _ I1 q1) λiv s2 ⟨y,H2,I2,ry,a,v,ex,g,q2⟩=>?_)
 subst ex
 obtain rfl:u=aZ a:=rx
 exact ⟨J0 I2 g,Xv hu I2 g ry λw' s3 I3 rw'=>⟨v,H2,I3,rw',q2⟩⟩
theorem xv (hu:X.A.units+1<cLine) (ho:PE X o td) (hi:PE X i ty) (hv:PE X value tv) (hs:fJ value (some (.Subscript o i pos')) pos.line X.env=pure false) :
  PS X (.Assign [.Subscript o i pos'] value pos) (Uy td ty tv):=by
 intro pins s σ H D I h
 refine wpAny_Assign_Subscript (thn (hv pins s σ H _ I h) λr s1 ⟨v,H1,I1,rv,q1⟩=>thn (ho pins s1 σ H1 _ I1 q1) λu s2 ⟨x,H2,I2,rx,q2⟩=>thn (hi pins s2 σ H2 _ I2 q2) λiv s3 ⟨y,H3,I3,ry,a,H4,ex,g,q3⟩=>?_) hs
 subst ex
 obtain rfl:u=aZ a:=rx
 exact Zk hu I3 g ry rv λs4 I4=>⟨σ,H4,I4,q3⟩
end
theorem Jw {P:Program}{w:aX}{H:Hp}(h:Heap) (hb:de<h.objs.size):jY P w H (h.push { cls:=.type "dict",data:=.dict #[] }) h.objs.size (.dK []) :=
 ⟨aJ _,beq_eq_false_iff_ne.mpr (cY (aB hb)),[],.nil,nh h⟩
def VU:TE:=λ_ H Q=>∀p,H p=none->Q (.ref p) (upd H p (.dK []))
section
variable {X:Cx}{pos:Pos}
theorem vG:PE X (.Dict [] [] pos) VU:=λpins s σ H Q I h =>
 wpAny_Dict_empty ⟨.ref s.heap.objs.size,_,I.laid (a:=s.heap.objs.size) (o:=.dK []) (t':=s.toks) (λ_ _ q=>aj _ q) (ao _) (Jw s.heap I.big),rfl,h _ (I.hok.fresh (ao _))⟩
end
def QE:List (TE×TE)->St->Hp->(List (V×V)->Hp->Prop)->Prop
 | [],_,H,Q=>Q [] H
 | (tk,tv)::r,σ,H,Q=>tk σ H λx H1=>tv σ H1 λy H2=>QE r σ H2 λps H3=>Q ((x,y)::ps) H3
abbrev VV:List (V×V)->List (ae×ae)->Prop:=cf λp q=>jA p.1 q.1/\jA p.2 q.2
def PPs (X:Cx) (pos:Pos) (keys:List (Option Expr)) (values:List Expr) (trs:List (TE×TE)):Prop :=
 ∀(pins:List (Addr×Obj)) (s:Shared) (σ:St) (H:Hp) (Q:List (V×V)->Hp->Prop),Inv X pins σ H s->QE trs σ H Q ->
  ay (aA X.prog X.w) X.A (evalPairs (pairTrees keys values X.env pos)) (λvs s'=>∃ps H',Inv X pins σ H' s'/\VV ps vs/\Q ps H') X.xe s
theorem YN {X:Cx}{pos:Pos}:PPs X pos [] [] []:=λpins s σ H Q I h=>pairTrees_nil_walk ⟨[],H,I,.nil,h⟩
theorem uP {X:Cx}{pos:Pos}{k v:Expr}{ks:List (Option Expr)}{vs:List Expr}{tk tv:TE}{trs:List (TE×TE)}(hk:PE X k tk) (hv:PE X v tv) (hr:PPs X pos ks vs trs) :
  PPs X pos (some k::ks) (v::vs) ((tk,tv)::trs):=λpins s σ H Q I h =>
 pairTrees_cons_walk (thn (hk pins s σ H _ I h) λu s1 ⟨x,H1,I1,rx,q1⟩=>thn (hv pins s1 σ H1 _ I1 q1) λw2 s2 ⟨y,H2,I2,ry,q2⟩ =>
  thn (hr pins s2 σ H2 _ I2 q2) λws s3 ⟨ps,H3,I3,rel,q3⟩=>⟨(x,y)::ps,H3,I3,.cons ⟨rx,ry⟩ rel,q3⟩)
def qQ (kvs more:List (Key×V)):List (Key×V):=more.foldl (λacc kv=>qf acc kv.1 kv.2) kvs
theorem KV.merge:∀{more:List (Key×V)}{rs:List (Key×ae)}{kvs:List (Key×V)}{vs:List (Key×ae)},KV more rs->KV kvs vs->KV (qQ kvs more) (merged vs rs):=by
 intro more rs kvs vs r
 unfold KV at r
 induction r generalizing kvs vs with
 | nil=>intro q;exact q
 | @cons p q ps qs h t ih =>
  intro r0
  have e:KV (qf kvs p.1 p.2) (oO vs q.1 q.2):=by
   have:=r0.put p.1 h.2
   rw [<- h.1];exact this
  exact ih e
theorem zm:∀(more kvs:List (Key×V)),(qQ kvs more).length<=kvs.length+more.length
 | [],kvs=>by show kvs.length<=kvs.length+0;omega
 | p::r,kvs=>by
  have h1:=zm r (qf kvs p.1 p.2)
  have h2:=y4 kvs p.1 p.2
  show (qQ (qf kvs p.1 p.2) r).length<=_
  rw [ba];omega
theorem wA {P:Program}{w:aX}:∀{kvs:List (Key×V)}{ws:List (ae×ae)},VV (kvs.map λkv=>(kV kv.1,kv.2)) ws->∃rs,Carries (jy P w) ws rs/\KV kvs rs
 | [],_,r=>by rw [dG] at r;cases r;exact ⟨[],cA,.nil⟩
 | p::kvs,_,r=>by
  rw [aH] at r
  cases r with
  | @cons a b as bs h t =>
   obtain ⟨rs,c,q⟩:=wA (P:=P) (w:=w) t
   obtain ⟨b1,b2⟩:=b
   exact ⟨(p.1,b2)::rs,⟨wX h.1,rfl,c⟩,.cons ⟨rfl,h.2⟩ q⟩
def UW (trs:List (TE×TE)):TE:=λσ H Q=>∀p,H p=none->QE trs σ (upd H p (.dK [])) λps H2=>H2 p=some (.dK [])/\∃kvs:List (Key×V),ps=kvs.map (λkv=>(kV kv.1,kv.2))/\kvs.length<=15/\Q (.ref p) (upd H2 p (.dK (qQ [] kvs)))
theorem YC {X:Cx}{pos:Pos}{keys:List (Option Expr)}{values:List Expr}{trs:List (TE×TE)}(h:PPs X pos keys values trs) (hall:keys.all (·.isSome)=true) (hl:keys.length=values.length) (h0:keys≠[])
  (h15:keys.length<=15):PE X (.Dict keys values pos) (UW trs):=by
 intro pins s σ H Q I q
 have hn:=I.hok.fresh (ao s.heap.objs.size)
 have I1:=I.laid (a:=s.heap.objs.size) (o:=.dK []) (h':=s.heap.push { cls:=.type "dict",data:=.dict #[] }) (t':=s.toks) (λ_ _ q=>aj _ q) (ao _) (Jw s.heap I.big)
 refine wpAny_Dict_walk (knd:=jy X.prog X.w) hall hl h0 h15 (thn (h pins _ σ _ _ I1 (q _ hn)) λws s2 ⟨ps,H2,I2,rel,e,kvs,ep,lk,q2⟩=>?_)
 subst ep
 obtain ⟨rs,c,rk⟩:=wA (P:=X.prog) (w:=X.w) rel
 obtain ⟨z,hd,vs0,r0,dd⟩:=Yi I2.hok e
 cases r0
 refine ⟨rs,c,dd,λh' dd' hs=>⟨.ref s.heap.objs.size,_,?_,rfl,q2⟩⟩
 have hz:(qQ [] kvs).length<=sizeLine:=by
  have h1:=zm kvs []
  rw [fC] at h1
  rw [bu];omega
 have he:∃q,h'.get? s.heap.objs.size=some q:=let ⟨q,_,_,hq,_⟩:=dd';⟨q,hq⟩
 exact gO I2 (by rw [e];exact cA) hs he (gP hz hd (rk.merge .nil) dd')
structure M2 (X:Cx) (o:Expr) (m:Str) (apos:Pos) (e f:Expr) (cpos:Pos):Prop where
 base:dJ o m X.env (eval o X.env)=eval o X.env
 few:((ck cpos (aK [e,f] X.env)).all (λx=>!x.1) && (fN cpos (dz [] X.env)).all (λx=>x.1.isSome)
  && decide (([e,f]:List Expr).length+([]:List iH).length+(if ([]:List iH).isEmpty then 0 else 1)<30))=true
 line:(apos.endLine == cpos.line)=true
 trees:ck cpos (aK [e,f] X.env)=[(false,eval e X.env),(false,eval f X.env)]
def IsD (H:Hp) (a:Addr):Prop:=(∃kvs,Rd H a (.dK kvs))\/∃kvs,Rd H a (.dT kvs)
theorem Uo {X:Cx}{pins:List (Addr×Obj)}{σ:St}{H:Hp}{s:Shared}{a:Addr}(I:Inv X pins σ H s) (d:IsD H a) :
  s.TypeIs (.ref a) "dict" /\ (∀b,aZ a = .ref b->∃ob,s.heap.get? b=some ob/\ob.dict=none)/\(a == de)=false:=by
 rcases d with ⟨kvs,e⟩ | ⟨kvs,e⟩
 ·obtain ⟨_,hd,vs,_,dd⟩:=yA I.hok e
  refine ⟨dd.typeIs,λb q=>?_,hd⟩
  cases q
  obtain ⟨ob,_,_,h1,h2,_⟩:=dd
  exact ⟨ob,h1,h2.2.1⟩
 ·obtain ⟨_,hd,xs,_,dd⟩:=Ji I.hok e
  refine ⟨dd.typeIs,λb q=>?_,hd⟩
  cases q
  obtain ⟨ob,_,_,h1,h2,_⟩:=dd
  exact ⟨ob,h1,h2.2.1⟩
section
variable {X:Cx}{pins:List (Addr×Obj)}{σ:St}{H:Hp}{s:Shared}{a:Addr}{y d:V}{u r:ae}{o:Option V}{A:bg}{E:ae->Shared->Prop}
theorem VM {Q:ae->Shared->Prop}(hu:A.units+1<cLine) (I:Inv X pins σ H s) (g:qP H a y o) (ry:jA y u) (rd:jA d r) (h:∀w' s',Inv X pins σ H s'->jA (o.getD d) w'->Q w' s') :
  ay (aA X.prog X.w) A (call (.builtin "dict.get") [.ref a,u,r]) Q E s:=by
 rcases g with ⟨kvs,k,e,ey,l⟩ | ⟨kvs,k,b,e,ey,eb,l⟩
 ·subst ey
  obtain ⟨z,hd,vs,rel,dd⟩:=yA I.hok e
  refine call_meetsIn f7 dd.typeIs iR (iA _ _ _) (meets_dict_get_default (jy X.prog X.w) a (wX ry) hd r) ⟨_,dd.mapOf,h _ _ (I.tok _) ?_⟩
  rw [l]
  exact (rel.val k).getD rd
 ·subst ey
  cases (show u=aZ b from ry)
  obtain ⟨z,hd,xs,rel,dd⟩:=Ji I.hok e
  refine call_meetsIn f7 dd.typeIs iR (iA _ _ _) (meetsH_dict_get_default (ie (jy X.prog X.w)) a b hd r) ⟨fU hu,k,xs,kY I.hok eb,dd,h _ _ (I.tok _) ?_⟩
  rw [l]
  exact (rel.val k).getD rd
end
def VH (td ty tx:TE):TE:=λσ H Q=>td σ H λx H1=>∃a,x = .ref a/\IsD H1 a/\ty σ H1 λy H2=>tx σ H2 λz H3=>∃o,qP H3 a y o/\Q (o.getD z) H3
section
variable {X:Cx}{o e f:Expr}{apos cpos:Pos}{td ty tx:TE}
theorem J9 (hu:X.A.units+1<cLine) (ho:PE X o td) (he:PE X e ty) (hf:PE X f tx) (m:M2 X o "get" apos e f cpos):PE X (.Call (.Attribute o "get" apos) [e,f] [] cpos) (VH td ty tx):=by
 intro pins s σ H Q I h
 refine wpAny_Call_method m.base m.few m.line PySem.F.plainAttrs_dict f7 PySem.F.type_dict_get (thn (ho pins s σ H _ I h) λu s1 ⟨x,H1,I1,rx,a,ex,d,q1⟩=>?_)
 subst ex
 obtain rfl:u=aZ a:=rx
 obtain ⟨t1,t2,_⟩:=Uo I1 d
 refine ⟨t1,t2,?_⟩
 rw [m.trees]
 refine iL rfl (fq (fO (thn (he pins s1 σ H1 _ I1 q1) λiv s2 ⟨y,H2,I2,ry,q2⟩ =>
  fO (thn (hf pins s2 σ H2 _ I2 q2) λfv s3 ⟨z,H3,I3,rz,ov,g,q3⟩=>mr ?_))))
 exact VM hu I3 g ry rz λw' s4 I4 rw'=>⟨_,H3,I4,rw',q3⟩
end
section
variable {X:Cx}{pins:List (Addr×Obj)}{σ:St}{H:Hp}{s:Shared}{a:Addr}{kvs:List (Key×V)}{A:bg}{E:ae->Shared->Prop}
end
section
variable {X:Cx}{pins:List (Addr×Obj)}{σ:St}{H:Hp}{s:Shared}{a:Addr}{y:V}{u:ae}{A:bg}{E:ae->Shared->Prop}
end
end L2
namespace Att
open PySem PySem.W PySem.Calls PyProof.Rows
section
variable {prog:Program}{w:aX}{A:bg}{E:ae->Shared->Prop}{s:Shared}{K:Frag}
end
end Att
namespace L2
end L2
namespace L2
end L2
namespace L2
section
variable {P:Program}{w:aX}{K:ai}{mg:Str->Option ae}{base:Heap}
end
section
variable {X:Cx}
end
section
variable {κ:Type} [DecidableEq κ]
theorem vo:∀{l:List κ}{k:κ},l.Nodup->¬k∈l->(l++[k]).Nodup
 | [],k,_,_=>by simp
 | a::r,k,h,hk=>by
  obtain ⟨h1,h2⟩:=List.nodup_cons.mp h
  show (a::(r++[k])).Nodup
  refine List.nodup_cons.mpr ⟨λm=>?_,vo h2 λm=>hk (List.mem_cons.mpr (lq m))⟩
  rcases List.mem_append.mp m with q | q
  ·exact h1 q
  ·exact hk (List.mem_cons.mpr (aS (List.mem_singleton.mp q).symm))
end
end L2
end
section
namespace L2
open PySem.W
section
variable {prog:Program}{w:aX}{A:bg}{E:ae->Shared->Prop}{s:Shared}
theorem gU {its:List ae}{κ:o8}{lt:Nat->Nat->Bool}{G:List Nat->Prop}{Q:ae->Shared->Prop}(h64:its.length<64)
  (hk:2<=its.length->∀h',(∀b o,s.heap.get? b=some o->h'.get? b=some o)->∀Q':o8->Shared->Prop,Q' κ { s with heap:=h' }->ay (aA prog w) A.in1.in1 (keyKind' its.toArray) Q' (λ_ _=>False) { s with heap:=h' })
  (hc:∀h',(∀b o,s.heap.get? b=some o->h'.get? b=some o)->∀i j,i<its.length->j<its.length->∀Q':Bool->Shared->Prop,Q' (lt i j) { s with heap:=h' } ->
   ay (aA prog w) A.in1.in1 (keyLt' κ (its.getD i b7) (its.getD j b7)) Q' (λ_ _=>False) { s with heap:=h' })
  (hs:2<=its.length->qO lt its.length (oZ its.length) λp=>qc its.length p/\G p.toList) (h1:its.length<2->G (aO its.length))
  (h:∀(ix:List Nat) (h':Heap) (n:Nat),ix.Perm (aO its.length)->G ix->(∀b o,s.heap.get? b=some o->h'.get? b=some o) ->
   h'.get? (s.heap.objs.size)=some (bc "list" (ix.map λi=>its.getD i b7).toArray n)->Q (.ref (s.heap.objs.size)) { s with heap:=h' }) :
  ay (aA prog w) A.in1 (nv its >>= λl=>dQ [l] (call (.builtin "list.sort") [l] []) >>= λ_=>ret l) (λfin s'=>∃v,fin = .done (.ret v)/\Q v s') E s:=by
 refine ah (dP ?_ (by rw [bu];omega))
 have ho:(s.heap.push (bc "list" its.toArray 0)).get? (s.heap.objs.size)=some (bc "list" its.toArray 0):=aD _ rfl
 have keep:∀b o,s.heap.get? b=some o->(s.heap.push (bc "list" its.toArray 0)).get? b=some o:=λb o q=>by
  exact aj _ q
 show ay _ _ _ _ _ { s with heap:=s.heap.push (bc "list" its.toArray 0) }
 refine ah (bO (ir lx ⟨_,ho,rfl⟩ iW ?body (oa _)))
 case body =>
  generalize hh0:s.heap.push (bc "list" its.toArray 0)=h0 at ho keep
  generalize ha:s.heap.objs.size=a at ho h
  have aNew:∀b o,s.heap.get? b=some o->b≠a:=λb o q=>by have:=ax q;rw [<- ha];exact aB this
  show ay (aA prog w) A.in1.in1 (eA.«list.sort» ⟨[.ref a],[]⟩) _ _ { s with heap:=h0 }
  rw [n5]
  have hal:a<h0.objs.size:=ax ho
  refine ah (iP ho rfl ?_)
  refine ah (cq ho rfl ?_ (by rw [aw,bu];omega) (aJ _))
  obtain ⟨e1,ho1⟩:∃e1,(h0.update a (aQ λ_=>(#[]:Array ae))).get? a=some (bc "list" #[] e1):=⟨_,dj ho (λ_=>#[])⟩
  refine ah (dB ho1 rfl ?_)
  refine ah (ly ?_ (by show its.length<=_;rw [bu];omega))
  refine ah (dP ?_ (aJ _))
  refine bO ?_
  have ho6:(((h0.update a (aQ λ_=>(#[]:Array ae))).push (bc "tuple" its.toArray 0)).push (bc "list" #[] 0)).get? a=some (bc "list" #[] e1):=by
   rw [c9 _ _ _ (by rw [m7,d5];exact aB (bW hal)),c9 _ _ _ (by rw [d5];exact aB hal)]
   exact ho1
  have keep6:∀b o,s.heap.get? b=some o->(((h0.update a (aQ λ_=>(#[]:Array ae))).push (bc "tuple" its.toArray 0)).push (bc "list" #[] 0)).get? b=some o:=λb o q =>
   aj _ (aj _ ((bJ _ _ _ _ (aNew b o q)).trans (keep b o q)))
  show ay (aA prog w) A.in1.in1 _ _ _ { s with heap:=((h0.update a (aQ λ_=>(#[]:Array ae))).push (bc "tuple" its.toArray 0)).push (bc "list" #[] 0) }
  generalize ((h0.update a (aQ λ_=>(#[]:Array ae))).push (bc "tuple" its.toArray 0)).push (bc "list" #[] 0)=h6 at ho6 keep6
  dsimp only
  have fin:∀(ix:List Nat),ix.Perm (aO its.length)->G ix->∀out:Array ae,out=(ix.map λi=>its.getD i b7).toArray ->
    ∃v,og (Flow.ret b7) = .done (.ret v)/\ay (aA prog w) A.in1 (do let _ <- pure v;ret (aZ a)) (λfin s'=>∃v,fin = .done (.ret v)/\Q v s') E { s with heap:=h6.update a (aQ λ_=>out) }:=λix hp hg out ho'=>by
   refine ⟨_,rfl,ah (wpAny_pure (wpAny_pure ⟨_,rfl,?_⟩))⟩
   subst ho'
   exact h ix _ _ hp hg (λb o q=>(bJ _ _ _ _ (aNew b o q)).trans (keep6 b o q)) (dj ho6 λ_=>_)
  by_cases h2:its.toArray.size<2
  ·rw [if_pos h2,if_pos h2]
   refine ah (wpAny_pure ?_)
   rw [iX]
   refine ah (wpAny_pure ?_)
   dsimp only
   refine ah (dB ho6 rfl ?_)
   rw [vq]
   refine ah (cq ho6 rfl ?_ (aJ _) (by rw [aw,bu];omega))
   simp only [bne_self_eq_false,cn,if_false]
   rw [aw] at h2
   exact wpAny_pure (fin _ (lz _) (h1 h2) _ (by rw [yQ]))
  ·rw [if_neg h2,if_neg h2]
   rw [aw] at h2
   refine ah (aV (hk ∅ h6 keep6 (λκ' s'=>κ'=κ/\s'={ s with heap:=h6 }) ⟨rfl,rfl⟩) (λκ' s' q=>?_) λ_ _ x=>x.elim)
   obtain ⟨rfl,rfl⟩:=q
   refine ah (aV (kat_run (ks:=its) (vs:=its) (κ:=κ') (G:=λp s'=>(qc its.length p/\G p.toList)/\s'={ s with heap:=h6 }) (Q:=λst' s'=>∃p:Array Nat,arrOf st'=p.map (p0 (its.toArray.zip its.toArray))/\oh st'=none/\(qc its.length p/\G p.toList)/\s'={ s with heap:=h6 })
    rfl ∅ h64 (λp st' s' a1 a2 a3 a4=>⟨p,a2,a3,a4⟩) (qO.wp (I:=λs'=>s'={ s with heap:=h6 }) (λi j C s' hi hj hI hC=>?_) (λp s' hp hI=>⟨hp,hI⟩) (hs ∅) rfl)) ?_ λ_ _ e=>e)
   ·subst hI
    exact hc h6 keep6 i j hi hj C (hC _ rfl)
   ·rintro ⟨⟨⟩,st'⟩ s' ⟨p,har,hf,⟨hP,hG⟩,rfl⟩
    dsimp only
    have hout:=pe (ks:=its) (vs:=its) rfl har
    have hz:(mC (p.toList.map λi=>its.getD i b7)).size=its.length:=by rw [aw,af,bI,hP.size]
    rw [hout]
    refine ah (dB ho6 rfl ?_)
    refine ah (cq ho6 rfl ?_ (aJ _) (by rw [hz,bu];omega))
    rw [hf]
    simp only [bne_self_eq_false,cn,if_false]
    exact wpAny_pure (fin p.toList (by have:=Array.perm_iff_toList_perm.mp hP;simpa using this) hG _ rfl)
theorem Qq {v:ae}{Q:ae->Shared->Prop}(hcol:ay (aA prog w) A.in1 (collect v) (λits s1=>ay (aA prog w) A.in1 (nv its >>= λl=>dQ [l] (call (.builtin "list.sort") [l] []) >>= λ_=>ret l) (λfin s'=>∃v,fin = .done (.ret v)/\Q v s') E s1) E s) :
  ay (aA prog w) A (call (.builtin "sorted") [v]) Q E s:=by
 refine fY mX mz mB (args_sorted1 _) ?_
 unfold eA.«sorted»
 refine ah (m:=o9 "sorted" 1 1 _) (wpAny_pure ?_)
 exact ah hcol
end
section
variable {X:Cx}
theorem Inv.laidN {pins:List (Addr×Obj)}{σ:St}{H:Hp}{s:Shared}{h':Heap}{a:Addr}{o:HO}{t':Nat}(I:Inv X pins σ H s) (k:∀b u,s.heap.get? b=some u->h'.get? b=some u) (hn:s.heap.get? a=none) (new:H a=none->jY X.prog X.w (upd H a o) h' a o):H a=none/\Inv X pins σ (upd H a o) { s with heap:=h',toks:=t' }:=by
 have hH:H a=none:=by
  cases q:H a with
  | none=>rfl
  | some u =>
   obtain ⟨ob,e⟩:=wt (I.hok a u q)
   rw [hn] at e
   cases e
 have ne:∀{b u},s.heap.get? b=some u->b≠a:=λe z=>by rw [z,hn] at e;cases e
 refine ⟨hH,I.un ⟨λb u q _ _ _=>k b u q,λb u q _ _ _=>⟨u.slots,k b u q⟩,λb u q n _=>by rw [j5 (ne q)];exact n,λb u q _=>⟨u,k b u q⟩,λb xs q=>by rw [j5 (j1 q hH)];exact q,λb u xs q=>by rw [j5 (j1 q hH)];exact q,λb ps q=>⟨#[],by rw [j5 (j1 q hH),q];simp⟩⟩ λb u e=>?_⟩
 by_cases hb:b=a
 ·subst hb;rw [j7] at e;cases e;exact new hH
 ·rw [j5 hb] at e
  exact (I.hok b u e).stay (λc v _ q=>k c v q) (λc q=>by rw [j5 (j1 q hH)];exact q) λc xs q=>by rw [j5 (j1 q hH)];exact q
theorem kQ (K:ai) (hca:X.calm=true) (hK:X.K=K:=by rfl):qA X (.builtin "sorted") (λxs H Q=>∃(p:Addr) (kvs:List (Key×V)) (ns:List Int),xs=[.ref p]/\H p=some (.dK kvs)/\kvs.map (·.1)=ns.map cX/\ns.length<64 /\
  ∀(l:Addr) H' (ns':List Int),H l=none->H' l=some (.lst (ns'.map V.int))->jn H H'->ns'.Perm ns->ns'.Pairwise (· <= ·)->Q (.ref l) H'):=by
 subst hK
 intro pins s σ H xs us Q I r h
 obtain ⟨p,kvs,ns,rfl,hp0,hks,h64,k⟩:=h
 obtain ⟨u,rfl,ru⟩:=zt r
 cases ru
 obtain ⟨hz,lo,vs,kv,dd⟩:=Yi I.hok hp0
 obtain ⟨ep,hat⟩:=dd.dictAt
 have hvl:vs.length=ns.length:=by
  have e1:kvs.length=vs.length:=aP kv
  have e2:=congrArg fm hks
  rw [af,af] at e2
  omega
 refine Qq (kdu_collect (kdl_dict (knd:=jy X.prog X.w) (kvs:=vs) (ep:=ep) lo) (I.ok.hd hca) hat (cT (je ∅)) λh1 tk acc hk1 hacc=>?_)
 have hal:acc.toList.length=ns.length:=by rw [bI,hacc.1,hvl]
 have item:∀i,i<acc.toList.length->∃t,acc.toList.getD i b7 = .int (ns.getD i 0) t:=λi hi=>by
  have hi2:i<acc.size:=by rw [bI] at hi;exact hi
  obtain ⟨key,x,hx,his⟩:=hacc.2 i acc[i] (cN hi2)
  have hi3:i<kvs.length:=by
   have e1:kvs.length=vs.length:=aP kv
   omega
  obtain ⟨q,hq,e1,_⟩:=Paired.get kv (aa hi3)
  rw [hx] at hq
  cases hq
  have e2:(kvs.map (·.1))[i]? = some key:=by rw [ar,aa hi3];exact congrArg some e1
  have hin:i<ns.length:=∅
  rw [hks,ar,aa hin] at e2
  cases e2
  obtain ⟨t,et⟩:=eB his
  refine ⟨t,?_⟩
  rw [ak,l9,cN hi2,et,ak,aa hin]
  rfl
 generalize acc.toList=its at hal item
 refine gU (s:={ s with heap:=h1,toks:=tk }) (κ:=oneType') (lt:=ltK YX λi=>ns.getD i 0) (G:=λix=>(ix.map λi=>ns.getD i 0).Pairwise YX.kle) ∅ (λh2 h' hk' Q' q=>?_) (λh' hk' i j hi hj Q' q=>?_) (λh2=>?_) (λh1=>?_) λix h' n hp hg hk' hn=>?_
 ·refine kas_kind (T:=.type "int") h2 (λv hv=>?_) rfl rfl q
  obtain ⟨i,hi,rfl⟩:=List.mem_iff_getElem.mp hv
  obtain ⟨t,e1⟩:=item i hi
  have e3:its[i] = .int (ns.getD i 0) t:=by rw [<- e1];simp [hi]
  rw [e3]
  exact oE rfl
 ·obtain ⟨t,e1⟩:=item i hi
  obtain ⟨u,e2⟩:=item j hj
  rw [e1,e2]
  exact kat_lt_int q
 ·exact uI ∅ λp' hP hS=>⟨hP,hS.pairwise hP.size⟩
 ·have hcase:its.length=0\/its.length=1:=∅
  rcases hcase with z | z
  ·rw [z];exact eN
  ·rw [z];exact dY _ _
 ·have hn0:s.heap.get? h1.objs.size=none:=by
   cases q:s.heap.get? h1.objs.size with
   | none=>rfl
   | some u=>exact absurd (ax (hk1 _ _ q)) (bX _)
  have hv:jz ((ix.map λi=>ns.getD i 0).map V.int) (ix.map λi=>its.getD i b7):=by
   have hb:∀i∈ix,i<its.length:=λi hi=>by have:=hp.mem_iff.mp hi;simpa using this
   clear hp hg hn
   induction ix with
   | nil=>exact .nil
   | cons i ix ih =>
    obtain ⟨t,e⟩:=item i (hb i aC)
    exact .cons ⟨t,e⟩ (ih λj hj=>hb j (az _ hj))
  have hns:((aO its.length).map λi=>ns.getD i 0)=ns:=by
   apply iq
   ·simp [hal]
   ·intro i h1 h2
    simp [h2]
  have hsz:((ix.map λi=>ns.getD i 0).map V.int).length<=sizeLine:=by
   rw [af,af,hp.length_eq,bL]
   exact aG (by omega:its.length<=1000) ⋯
  obtain ⟨hf,J⟩:=Inv.laidN (o:=.lst ((ix.map λi=>ns.getD i 0).map V.int)) (t':=tk) I (λb o e=>hk' b o (hk1 b o e)) hn0 λ_=>⟨hsz,_,n,hv,hn⟩
  refine ⟨.ref _,upd H h1.objs.size (.lst ((ix.map λi=>ns.getD i 0).map V.int)),J,rfl,k _ _ _ hf j7 (jn.new hf) ?_ ?_⟩
  ·have:=hp.map λi=>ns.getD i 0
   rw [hns] at this
   exact this
  ·exact List.Pairwise.imp (R:=YX.kle) (λ{a b} z=>Y7 z) hg
end
end L2
end
section
namespace L2
open PySem.W
theorem Inv.freeze {X:Cx}{pins:List (Addr×Obj)}{σ:St}{H:Hp}{s:Shared}{a:Addr}{o:Obj}{kvs:List (Key×V)}(I:Inv X pins σ H s) (e:H a=some (.dK kvs)) (ho:s.heap.get? a=some o):Inv X pins σ (upd H a (.frz o (.dK kvs))) s:=by
 refine I.un (t':=s.toks) ⟨λb u q _ _ _=>q,λb u q _ _ _=>⟨u.slots,q⟩,λb u q n _=>?_,λb u q _=>⟨u,q⟩,λb xs q=>?_,λb u xs q=>?_,λb ps q=>⟨#[],?_⟩⟩ λb u q=>?_
 ·rw [j5 (λz=>by rw [z,e] at n;cases n)];exact n
 ·rw [j5 (jh q e (by intro z;cases z))];exact q
 ·rw [j5 (jh q e (by intro z;cases z))];exact q
 ·rw [j5 (jh q e (by intro z;cases z)),q];simp
 ·by_cases hb:b=a
  ·subst hb
   rw [j7] at q
   cases q
   exact ⟨ho,I.hok _ _ e⟩
  ·rw [j5 hb] at q
   exact (I.hok b u q).stay (λc v _ q=>q) (λc q=>by rw [j5 (jh q e (by intro z;cases z))];exact q) λc xs q=>by rw [j5 (jh q e (by intro z;cases z))];exact q
def Itd (a:Addr) (o:Obj) (kvs:List (Key×V)):It :=
 ⟨λi H=>H a=some (.frz o (.dK kvs))/\i<kvs.length,λi H x H'=>H'=H/\∃q,kvs[i]? = some q/\x=kV q.1,λi H=>H a=some (.frz o (.dK kvs))/\kvs.length<=i⟩
theorem relK {P:Program}{w:aX}{k:Key}{v:ae}(h:(jy P w).is k v=true):jA (kV k) v:=by
 cases k with
 | inl i=>exact eB h
 | inr x=>exact lJ h
theorem XO {P:Program}{w:aX}{K:ai}{tg:Expr}{a it:Addr}{o:Obj}{kvs:List (Key×V)}{vs:List (Key×ae)}{ep:Nat}(kv:KV kvs vs) (HD:∀h:Heap,h.get? a=some o->h.DictAt (jy P w) a vs ep):Turn P w K tg (Itd a o kvs) [it] it (λi h=>h.IsKeyIter it a i vs.length ep) where
 mem:=by simp
 obj:=λi h st b hb=>by
  have e:b=it:=by simpa using hb
  subst e
  obtain ⟨o,e,c,d⟩:=st
  exact ⟨o,e,λv z=>by rw [d] at z;cases z⟩
 keep:=λi h h' st k=>st.at λo e=>k it (by simp) o e
 item:=by
  intro X hP hw hK hc i pins s σ H E I hf st hg
  subst hP hw hK
  obtain ⟨hq,hi⟩:=hg
  have hat:=HD s.heap (I.hok _ _ hq).1
  have hl:kvs.length=vs.length:=aP kv
  obtain ⟨f0,f1,f2,f3,f4,f5⟩:=hf it (by simp)
  obtain ⟨⟨k,x⟩,hx,ek,_⟩:=Paired.get kv (aa hi)
  refine wpAny_pyNext_dict_item st hat hx λkey h' hkey st' sb=>?_
  have I1:Inv X pins σ H { s with heap:=h' }:=I.turned (t':=s.toks) (λb o hb e=>(sb.2 b hb).trans e) f0 f1 f3 f4 f5
  obtain ⟨ob,e,c,d⟩:=id st'
  exact ⟨key,rfl,Jg (s:={ s with heap:=h' }) e c d ⋯ ⟨kV k,H,I1,relK hkey,⟨rfl,_,aa hi,by rw [show (kvs[i]'hi).1=k from ek]⟩,st',λb hb=>(hf b hb).1⟩⟩
 done:=by
  intro X hP hw hK hc i pins s σ H E I hf st hg
  subst hP hw hK
  obtain ⟨hq,hi⟩:=hg
  have hat:=HD s.heap (I.hok _ _ hq).1
  have hl:kvs.length=vs.length:=aP kv
  obtain ⟨f0,f1,f2,f3,f4,f5⟩:=hf it (by simp)
  exact wpAny_pyNext_dict_end (I.ok.hd hc) st hat (by simp;omega) λh' eb=>⟨rfl,I.turned (t':=s.toks) (λb o hb e=>eb b o hb e) f0 f1 f3 f4 f5⟩
 self:=λ_ _ _ _ _ st h=>wpAny_pyIter_keyiter st h
def iDic (td:TE):TI:=λσ H R=>td σ H λx H1=>∃a kvs,x = .ref a/\((H1 a=some (.dK kvs)/\∀o,R (Itd a o kvs) (upd H1 a (.frz o (.dK kvs))))\/∃o,H1 a=some (.frz o (.dK kvs))/\R (Itd a o kvs) H1)
theorem Xi {X:Cx}{tg l:Expr}{td:TE}(hl:PE X l td):PI X tg l (iDic td):=by
 intro pins s σ H R I h
 refine thn (hl pins s σ H _ I h) λv s1 ⟨x,H1,I1,r1,a,kvs,e,q⟩=>?_
 subst e
 cases r1
 have main:∀{H2:Hp} {o:Obj},Inv X pins σ H2 s1->H2 a=some (.frz o (.dK kvs))->R (Itd a o kvs) H2->ay (aA X.prog X.w) X.A (lU (.ref a)) (PIE X pins σ tg R) X.xe s1:=λ{H2 o} I2 e2 q2=>by
  have ho:=(I2.hok _ _ e2).1
  obtain ⟨hz,lo,vs,kv,dd⟩:=yA I2.hok (.inr ⟨o,e2⟩)
  obtain ⟨ep,ob,es,h1,hrest⟩:=dd.dictAt
  rw [ho] at h1
  cases h1
  have HD:∀h:Heap,h.get? a=some o->h.DictAt (jy X.prog X.w) a vs ep:=λh e=>⟨o,es,e,hrest⟩
  refine wpAny_pyIter_dict lo (HD _ ho) ?_
  refine ⟨s1.heap.objs.size,[s1.heap.objs.size],_,_,H2,rfl,I2.kept (t':=s1.toks) λb o e=>aj _ e,XO kv HD,⟨_,aD _ rfl,rfl,rfl⟩,λb hb=>?_,q2⟩
  have e:b=s1.heap.objs.size:=by simpa using hb
  subst e
  exact I2.fpOk (ao _) (I2.hok.fresh (ao _))
 rcases q with ⟨e1,q1⟩ | ⟨o,e1,q1⟩
 ·obtain ⟨hz,lo,vs,kv,dd⟩:=yA I1.hok (.inl e1)
  obtain ⟨ep,ob,es,h1,hrest⟩:=dd.dictAt
  exact main (I1.freeze e1 h1) j7 (q1 ob)
 ·exact main I1 e1 q1
theorem Jh {a:Addr}{o:Obj}{kvs:List (Key×V)}{g:TG}{tb:TS}{D:Ends}{σ:St}{H:Hp}(Pv:Nat->St->Hp->Prop) (h0:Pv 0 σ H) (hl:∀i σ H,i<=kvs.length->Pv i σ H->H a=some (.frz o (.dK kvs)))
  (hs:∀i q σ H,kvs[i]? = some q->Pv i σ H->g (kV q.1) σ H λσ2 H2=>tb { D with nx:=Pv (i+1),ct:=Pv (i+1),bk:=D.nx } σ2 H2) (hd:∀σ H,Pv kvs.length σ H->D.nx σ H) :
  ∃W:Nat->Nat->St->Hp->Prop,(∃m,W 0 m σ H)/\∀i m σ H,W i m σ H ->
   ((Itd a o kvs).stop i H/\D.nx σ H)\/((Itd a o kvs).go i H/\∃N:St->Hp->Prop,(∀σ' H',N σ' H'->∃m',m'<m/\W (i+1) m' σ' H')/\∀x H',(Itd a o kvs).yld i H x H'->g x σ H' λσ2 H2=>tb { D with nx:=N,ct:=N,bk:=D.nx } σ2 H2):=by
 refine ⟨λi m σ H=>m=kvs.length-i/\i<=kvs.length/\Pv i σ H,⟨kvs.length,by simp,aJ _,h0⟩,?_⟩
 rintro i m σ H ⟨rfl,hi,p⟩
 have q:=hl i σ H hi p
 by_cases hlt:i<kvs.length
 ·refine .inr ⟨⟨q,hlt⟩,Pv (i+1),λσ' H' p'=>⟨kvs.length-(i+1),∅,rfl,hlt,p'⟩,λx H' y=>?_⟩
  obtain ⟨e,z,hz,ex⟩:=y
  subst e ex
  exact hs i z σ _ hz p
 ·obtain rfl:i=kvs.length:=∅
  exact .inl ⟨⟨q,ao _⟩,hd σ H p⟩
end L2
end
section
namespace L2
open PySem.W
theorem Z4 {P:Program}{w:aX}{K:ai}{tg:Expr}(it:Addr) (lo:Int) (n:Nat):Turn P w K tg (Itr lo n) [it] it (λi h=>IsLongIter h it (lo+(i:Nat)*1) ((n:Int)-(i:Nat)) 1) where
 mem:=by simp
 obj:=λi h st b hb=>by
  have e:b=it:=by simpa using hb
  subst e
  exact ⟨_,st,λv z=>by
   have z':mS _=oI v:=z
   cases z'⟩
 keep:=λi h h' st k=>k it (by simp) _ st
 item:=by
  intro X hP hw hK hc i pins s σ H E I hf st hg
  subst hP hw hK
  obtain ⟨f0,f1,f2,f3,f4,f5⟩:=hf it (by simp)
  have W:=Walks.longrange (prog:=X.prog) (w:=X.w) (I.ok.hd hc) it lo 1 n
  refine W.item i s _ _ hg st λv h' tk hv st' kk=>?_
  obtain ⟨t,rfl⟩:=hv
  have I1:Inv X pins σ H { s with heap:=h',toks:=tk }:=I.turned (λb o hb e=>kk b o (by simpa using hb) e) f0 f1 f3 f4 f5
  refine ⟨_,rfl,Jg (s:={ s with heap:=h',toks:=tk }) (n:="longrange_iterator") st' rfl rfl ⋯ ⟨.int (lo+i),H,I1,⟨t,?_⟩,⟨rfl,rfl⟩,st',λb hb=>(hf b hb).1⟩⟩
  rw [Int.mul_one]
 done:=by
  intro X hP hw hK hc i pins s σ H E I hf st hg
  subst hP hw hK
  obtain ⟨f0,f1,f2,f3,f4,f5⟩:=hf it (by simp)
  exact wpAny_pyNext_long_end (I.ok.hd hc) st (by have:n<=i:=hg;omega) λh' eb=>⟨rfl,I.turned (t':=s.toks) (λb o hb e=>eb b o hb e) f0 f1 f3 f4 f5⟩
 self:=λ_ _ _ _ _ st h=>wpAny_pyIter_longiter st h
section
variable {X:Cx}{tg:Expr}
theorem Zi {pins:List (Addr×Obj)}{σ:St}{H:Hp}{s:Shared}{R:It->Hp->Prop}{E:ae->Shared->Prop}{lo hi:Int}{t u v:Tok}{tk:Nat}(I:Inv X pins σ H s)
  (q:R (Itr lo (hi-lo).toNat) H):ay (aA X.prog X.w) X.A (lU (.ref s.heap.objs.size)) (PIE X pins σ tg R) E { s with heap:=s.heap.push { cls:=.type "range",data:=.fields #[.int lo t,.int hi u,.int 1 v] },toks:=tk }:=by
 have I1:Inv X pins σ H { s with heap:=s.heap.push { cls:=.type "range",data:=.fields #[.int lo t,.int hi u,.int 1 v] },toks:=tk }:=I.kept λb o e=>aj _ e
 have e1:lo+((0:Nat):Int)*1=lo:=by simp
 have e2:(((hi-lo).toNat:Nat):Int)-((0:Nat):Int)=ij lo hi 1:=by rw [oz];split <;> omega
 have fp:∀b∈[(s.heap.push { cls:=.type "range",data:=.fields #[.int lo t,.int hi u,.int 1 v] }).objs.size],_:=λb hb=>by
  have e:b=(s.heap.push { cls:=.type "range",data:=.fields #[.int lo t,.int hi u,.int 1 v] }).objs.size:=by simpa using hb
  subst e
  exact I1.fpOk (ao _) (I1.hok.fresh (ao _))
 by_cases sm:Builtin.Range.small lo hi 1=true
 ·refine lV (mT ..) sm ?_
  refine ⟨(s.heap.push { cls:=.type "range",data:=.fields #[.int lo t,.int hi u,.int 1 v] }).objs.size,[(s.heap.push { cls:=.type "range",data:=.fields #[.int lo t,.int hi u,.int 1 v] }).objs.size],_,_,H,rfl,
   I1.kept (t':=tk) λb o e=>aj _ e,uW _ lo (hi-lo).toNat,?_,fp,q⟩
  show mR _ _ (lo+((0:Nat):Int)*1) ((((hi-lo).toNat:Nat):Int)-((0:Nat):Int)) 1
  rw [e1,e2]
  exact aD _ rfl
 ·refine wpAny_pyIter_longrange (mT ..) (by simpa using sm) ?_
  refine ⟨(s.heap.push { cls:=.type "range",data:=.fields #[.int lo t,.int hi u,.int 1 v] }).objs.size,[(s.heap.push { cls:=.type "range",data:=.fields #[.int lo t,.int hi u,.int 1 v] }).objs.size],_,_,H,rfl,
   I1.kept (t':=tk) λb o e=>aj _ e,Z4 _ lo (hi-lo).toNat,?_,fp,q⟩
  show IsLongIter _ _ (lo+((0:Nat):Int)*1) ((((hi-lo).toNat:Nat):Int)-((0:Nat):Int)) 1
  rw [e1,e2]
  exact aD _ rfl
def UA (ta:TA):TI:=λσ H R=>ta σ H λvs H1=>∃i j:Int,vs=[.int i,.int j]/\R (Itr i (j-i).toNat) H1
theorem Zb {a b:Expr}{ta:TA}{p pos:Pos}(hg:Gl X "range") (hm:X.mg "range" = none) (ha:PA X [a,b] ta) (hs:aK [a,b] X.env=[(false,eval a X.env),(false,eval b X.env)]:=by rfl) (hs2:aK [b] X.env=[(false,eval b X.env)]:=by rfl) :
  PI X tg (.Call (.Name "range" p) [a,b] [] pos) (UA ta):=by
 intro pins s σ H R I h
 refine Call_ (y8 I hg hm nO (c0 (thn (ha pos pins s σ H _ I h) λus s1 ⟨vs,H1,I1,r1,q1⟩=>?_) (by rw [hs,hs2]) (by rw [hs2];rfl)))
 obtain ⟨i,j,e,q⟩:=q1
 subst e
 cases r1 with
 | cons r rr =>
  cases rr with
  | cons r' rr =>
   cases rr
   obtain ⟨t,rfl⟩:=r
   obtain ⟨t',rfl⟩:=r'
   exact call_range_2 (Zi I1 q)
end
end L2
end
section
namespace L2
open PySem.W
def Fz (a:Addr) (kvs:List (Key×V)) (o:Obj) (H H4:Hp):Prop:=H4 a=some (.frz o (.dK kvs))/\(H4=H\/(H a=some (.dK kvs)/\H4=upd H a (.frz o (.dK kvs))))
theorem Fz.at {a:Addr}{kvs:List (Key×V)}{o:Obj}{H H4:Hp}(f:Fz a kvs o H H4) {c:Addr}{u:HO}(h:H c=some u) (n:c≠a):H4 c=some u:=by
 rcases f.2 with rfl | ⟨_,rfl⟩
 ·exact h
 ·rw [j5 n];exact h
theorem kK {a:Addr}{kvs:List (Key×V)}{g:TG}{tb:TS}{D:Ends}{σ:St}{H:Hp}(h:Rd H a (.dK kvs)) (Pv:Obj->Nat->St->Hp->Prop) (h0:∀o H4,Fz a kvs o H H4->Pv o 0 σ H4) (hl:∀o i σ H,i<=kvs.length->Pv o i σ H->H a=some (.frz o (.dK kvs)))
  (hs:∀o i q σ H,kvs[i]? = some q->Pv o i σ H->g (kV q.1) σ H λσ2 H2=>tb { D with nx:=Pv o (i+1),ct:=Pv o (i+1),bk:=D.nx } σ2 H2) (hd:∀o σ H,Pv o kvs.length σ H->D.nx σ H) :
  ∃a' kvs',V.ref a = .ref a'/\((H a'=some (.dK kvs')/\∀o,∃W:Nat->Nat->St->Hp->Prop,(∃m,W 0 m σ (upd H a' (.frz o (.dK kvs'))))/\∀i m σ H,W i m σ H ->
   ((Itd a' o kvs').stop i H/\D.nx σ H)\/((Itd a' o kvs').go i H/\∃N:St->Hp->Prop,(∀σ' H',N σ' H'->∃m',m'<m/\W (i+1) m' σ' H')/\∀x H',(Itd a' o kvs').yld i H x H'->g x σ H' λσ2 H2=>tb { D with nx:=N,ct:=N,bk:=D.nx } σ2 H2)) \/
   ∃o,H a'=some (.frz o (.dK kvs'))/\∃W:Nat->Nat->St->Hp->Prop,(∃m,W 0 m σ H)/\∀i m σ H,W i m σ H ->
   ((Itd a' o kvs').stop i H/\D.nx σ H)\/((Itd a' o kvs').go i H/\∃N:St->Hp->Prop,(∀σ' H',N σ' H'->∃m',m'<m/\W (i+1) m' σ' H')/\∀x H',(Itd a' o kvs').yld i H x H'->g x σ H' λσ2 H2=>tb { D with nx:=N,ct:=N,bk:=D.nx } σ2 H2)):=by
 rcases h with h | ⟨o,h⟩
 ·exact ⟨a,kvs,rfl,.inl ⟨h,λo=>Jh (a:=a) (o:=o) (kvs:=kvs) (Pv o) (h0 o _ ⟨j7,.inr ⟨h,rfl⟩⟩) (hl o) (hs o) (hd o)⟩⟩
 ·exact ⟨a,kvs,rfl,.inr ⟨o,h,Jh (a:=a) (o:=o) (kvs:=kvs) (Pv o) (h0 o _ ⟨h,.inl rfl⟩) (hl o) (hs o) (hd o)⟩⟩
end L2
end
section
namespace L2
open PySem.W
section
variable {prog:Program}{w:aX}{A:bg}{E:ae->Shared->Prop}{s:Shared}
theorem YT:nX (.type "list") "keys" = pure none:=by rw [typeLookup_type,builtinLookup_eq_fast];kernel_rfl
theorem XW {a:Addr}{o:Obj}{xs:Array ae}{k:Nat}{Q:Option ae->Shared->Prop}(hx:s.heap.get? a=some o) (hc:o.cls = .type "list") (hdat:o.data = .seq xs k) (hd:o.dict=none) (hA:A.handled=none)
  (h:∀h' tk,(∀b o,s.heap.get? b=some o->h'.get? b=some o)->Q none { s with heap:=h',toks:=tk }):ay (aA prog w) A (getAttr? (.ref a) "keys") Q E s:=by
 obtain ⟨c,dct,dat,sl⟩:=o
 simp only at hc hdat hd
 subst hc hdat hd
 obtain ⟨hp,g,d,tk,os⟩:=s
 have hT:∀tk',(⟨hp,g,d,tk',os⟩:Shared).TypeIs (.ref a) "list":=λ_=>⟨_,hx,rfl⟩
 have f1:=sub_AttributeError
 have f3:=F.slot_list_getattribute.lookup
 have f4:=F.slot_list_getattribute.bind (.ref a)
 have f5:=am_list_getattr_none
 unfold getAttr? getAttrBy? getAttrBy
 repeat (any_goals (first | assumption | exact hT _ | ((with_reducible show ay _ _ (call (Value.builtin "list.__getattribute__") _ _) _ _ _);refine lX F.slot_list_getattribute (hT _) am_entry_list_getattribute (F.args_list_getattribute_2 _ _) (meets_getattribute_miss_list a xs k sl "keys" _ YT (by decide +kernel) ⋯) ⟨hx,hA,λh' tk' e hx'=>?_⟩) | wp_step))
 obtain ⟨t',u',he⟩:=hx'.there
 show ay _ _ (md _ _ _ _ _ _ _) _ _ _
 unfold md
 repeat (any_goals (first | assumption | wp_step))
 exact h h' tk' hx'.of.keeps
end
theorem um:entryFor table "dict.update.loop" = some eA.«dict.update.loop»:=entryFor_of_tree (by kernel_rfl)
theorem za:plainId "dict.update.loop" = true:=by decide +kernel
section
variable {prog:Program}{w:aX}{A:bg}{R:lW->Shared->Prop}{d it l:Addr}{items:Array ae}{qs:List (Key×ae×ae)}
def gx (d it:Addr) (items:Array ae) (qs:List (Key×ae×ae)) (h:Heap):Prop:=∀(i:Nat) (q:Key×ae×ae),qs[i]? = some q->∃b:Addr,items[i]? = some (.ref b)/\b≠d/\b≠it/\h.IsTuple b #[q.2.1,q.2.2]
theorem gx.keep {h h':Heap}(x:gx d it items qs h) (k:∀b o,b≠d->b≠it->h.get? b=some o->h'.get? b=some o):gx d it items qs h':=λi q hq=>by
 obtain ⟨b,h1,h2,h3,o,ho,r⟩:=x i q hq
 exact ⟨b,h1,h2,h3,o,k b o h2 h3 ho,r⟩
theorem Zm (hh:A.handled=none) (hld:l≠d) (hli:l≠it) (hdi:d≠it) (hsz:qs.length<=sizeLine) (hk:∀q∈qs,(jy prog w).is q.1 q.2.1=true) (nd:(qs.map (·.1)).Nodup) (hn:items.size=qs.length) :
  ∀(n i:Nat) (s:Shared),qs.length-i=n->i<=qs.length->s.heap.IsListIter it l i->s.heap.IsList l items->gx d it items qs s.heap->s.heap.DictOf (jy prog w) d ((qs.take i).map λq=>(q.1,q.2.2)) ->
   (∀h' tk,(∀b o,b≠d->b≠it->s.heap.get? b=some o->h'.get? b=some o)->h'.DictOf (jy prog w) d (qs.map λq=>(q.1,q.2.2))->R (.ok (.ret .none)) { s with heap:=h',toks:=tk }) ->
   cE (aA prog w) A (.builtin "dict.update.loop" ⟨[.ref d,.ref it,bY i,.none],[]⟩) R s:=by
 have hh1:A.in1.handled=none:=by simp [hh]
 intro n
 induction n with
 | zero =>
  intro i s e hi st hl ht hd hR
  obtain rfl:i=qs.length:=∅
  refine fB um ?_
  rw [dA za _]
  show ay _ A.in1 (lj (.ref it) >>= _) _ _ s
  refine ah (iZ hh1 st hl (by simp;omega) λh' eb=>?_)
  show ay _ A.in1 (Builtin.Dict.addKeywords d [] >>= _) _ _ _
  rw [bb] at hd
  exact ah (wpAny_pure (wpAny_pure (hR h' s.toks (λb o _ h2 h=>eb b o h2 h) (hd.extBut eb hdi))))
 | succ n ih =>
  intro i s e hi st hl ht hd hR
  have hlt:i<qs.length:=∅
  obtain ⟨⟨k,kv,v⟩,hq⟩:∃q,qs[i]? = some q:=⟨_,aa hlt⟩
  obtain ⟨b,hb,bd,bi,hbt⟩:=ht i _ hq
  refine fB um ?_
  rw [dA za _]
  show ay _ A.in1 (lj (.ref it) >>= _) _ _ s
  refine ah (iF st hl hb λh1 st1 sb=>?_)
  have hbt1:h1.IsTuple b #[kv,v]:=by
   obtain ⟨o,ho,r⟩:=hbt
   exact ⟨o,(sb.2 b bi).trans ho,r⟩
  show ay _ A.in1 (dQ [aZ b] _ >>= _) _ _ _
  obtain ⟨ob,hob,hcb,nb,hdb⟩:=hbt1
  refine ah (bO (ah (wpAny_tryCatch ?_)))
  unfold Builtin.Dict.pairItems
  refine ah (mD (T:="tuple") ⟨ob,hob,hcb⟩ ?_)
  rw [if_pos ⋯]
  refine ah (wpAny_seqItems hob hdb (wpAny_pure ?_))
  show ay _ A.in1 (dQ [kv,v] (dictSet d kv v)) _ _ _
  have hd1:h1.DictOf (jy prog w) d ((qs.take i).map λq=>(q.1,q.2.2)):=hd.sameBut sb hdi
  refine bO (wpAny_dictSet_pairs (s:={ s with heap:=h1 }) (hk _ (au hq)) hd1 (λh2 hd2 sd=>?_) (by rw [af,aW];omega))
  refine wpAny_pure ⟨ia za _,?_⟩
  have keep:∀c o,c≠d->c≠it->s.heap.get? c=some o->h2.get? c=some o:=λc o n1 n2 h=>(sd.2 c n1).trans ((sb.2 c n2).trans h)
  refine ih (i+1) { s with heap:=h2,toks:=s.toks+1 } ∅ ∅ ?_ ?_ (ht.keep keep) ?_ λh3 tk k3 d3=>?_
  ·obtain ⟨o,ho,r⟩:=st1
   exact ⟨o,(sd.2 it hdi.symm).trans ho,r⟩
  ·obtain ⟨o,ho,r⟩:=hl
   exact ⟨o,keep l o hld hli ho,r⟩
  ·have e:oO ((qs.take i).map λq=>(q.1,q.2.2)) k v=(qs.take (i+1)).map λq=>(q.1,q.2.2):=by
    rw [oO,if_neg,c8,hq]
    ·simp
    ·intro z
     obtain ⟨x,hx,ex⟩:=List.any_eq_true.mp z
     obtain ⟨u,hu,rfl⟩:=List.mem_map.mp hx
     have ex:u.1=k:=of_decide_eq_true ex
     obtain ⟨j,hj,ej⟩:=List.mem_iff_getElem.mp hu
     rw [aW] at hj
     rw [mF] at ej
     obtain ⟨_,eq⟩:=List.getElem?_eq_some_iff.mp hq
     have h1:(qs.map (·.1))[j]'(by rw [af];omega)=(qs.map (·.1))[i]'(by rw [af];exact hlt):=by rw [d6,d6,ej,eq,ex]
     exact absurd h1 (List.pairwise_iff_getElem.mp nd j i _ _ ∅)
   rw [<- e]
   exact hd2
  ·exact hR h3 tk (λc o n1 n2 h=>k3 c o n1 n2 (keep c o n1 n2 h)) d3
end
section
variable {prog:Program}{w:aX}{A:bg}{E:ae->Shared->Prop}{s:Shared}{l:Addr}{ol:Obj}{nl:Nat}{items:Array ae}{qs:List (Key×ae×ae)}
theorem Qy {Q:ae->Shared->Prop}(hh:A.handled=none) (ho:s.heap.get? l=some ol) (hc:ol.cls = .type "list") (hdt:ol.data = .seq items nl) (hdc:ol.dict=none) (hsz:qs.length<=sizeLine) (hk:∀q∈qs,(jy prog w).is q.1 q.2.1=true) (nd:(qs.map (·.1)).Nodup) (hn:items.size=qs.length)
  (ht:∀(i:Nat) (q:Key×ae×ae),qs[i]? = some q->∃b:Addr,items[i]? = some (.ref b)/\s.heap.IsTuple b #[q.2.1,q.2.2])
  (h:∀h' tk,(∀b o,s.heap.get? b=some o->h'.get? b=some o)->h'.DictOf (jy prog w) s.heap.objs.size (qs.map λq=>(q.1,q.2.2))->Q (.ref s.heap.objs.size) { s with heap:=h',toks:=tk }) :
  ay (aA prog w) A (call (.type "dict") [.ref l]) Q E s:=by
 refine callType_codes (Q₁:=λobj s₁=>obj = .ref s.heap.objs.size/\s₁={ s with heap:=s.heap.push { cls:=.type "dict",data:=.dict #[] } }) F.kt_called_dict (F.kt_typeCall_dict_1 _) F.entry_dict_init (kt_code_dict_new _ ⟨rfl,rfl⟩) ?_
 rintro obj s₁ ⟨rfl,rfl⟩
 have hnew:(s.heap.push { cls:=.type "dict",data:=.dict #[] }).DictOf (jy prog w) s.heap.objs.size []:=nh s.heap
 have kp:∀b o,s.heap.get? b=some o->(s.heap.push { cls:=.type "dict",data:=.dict #[] }).get? b=some o:=λb o q=>aj _ q
 refine ⟨hnew.typeIs,F.args_dict_init_2 _ _,?_⟩
 have lt:∀b o,s.heap.get? b=some o->b≠s.heap.objs.size:=λb o q=>aB (ax q)
 unfold eA.«dict.__init__»
 refine ah ?_
 unfold Builtin.Dict.selfAndRest
 refine ah (wpAny_notOrdered_dict hnew.typeIs ?_)
 show ay _ _ (pure (s.heap.objs.size,[aZ l])) _ _ _
 refine wpAny_pure ?_
 show ay _ _ (iB "dict.__init__" s.heap.objs.size (.ref l) [] .none) _ _ _
 unfold iB
 refine ah (mD (T:="list") ⟨_,kp _ _ ho,hc⟩ ?_)
 rw [if_pos ⋯]
 generalize hz:s.heap.push { cls:=.type "dict",data:=.dict #[] }=h0 at *
 refine ah (XW (s:={ s with heap:=h0 }) (kp _ _ ho) hc hdt hdc (by simp [hh]) λh1 tk k1=>?_)
 rw [if_pos (show (none:Option ae).isNone=true from rfl)]
 have hl1:h1.IsList l items:=⟨ol,k1 _ _ (kp _ _ ho),hc,nl,hdt⟩
 refine ah (m8 ?_)
 refine ah (eG (s:={ s with heap:=h1,toks:=tk }) hl1 (wpAny_pure ⟨ia za _,?_⟩))
 obtain ⟨od,_,_,hod,_⟩:=id hnew
 have hi1:∀b o,h1.get? b=some o->b≠h1.objs.size:=λb o q=>aB (ax q)
 have kp2:∀b o,s.heap.get? b=some o->(h1.push { cls:=.type "list_iterator",data:=.fields #[.ref l,.int 0 0] }).get? b=some o:=λb o q=>aj _ (k1 _ _ (kp _ _ q))
 refine Zm (d:=s.heap.objs.size) (it:=h1.objs.size) (l:=l) (items:=items) (qs:=qs) (by simp [hh]) (lt _ _ ho) (hi1 _ _ (k1 _ _ (kp _ _ ho))) (hi1 _ _ (k1 _ _ hod)) hsz hk nd hn qs.length 0 _ ∅ (aJ _) ⟨_,aD _ rfl,rfl,rfl⟩ (hl1.push _) (λi q hq=>?_) ?_ λh' tk' k' d'=>?_
 ·obtain ⟨b,hb,o,hbo,r⟩:=ht i q hq
  exact ⟨b,hb,lt _ _ hbo,hi1 _ _ (k1 _ _ (kp _ _ hbo)),o,kp2 _ _ hbo,r⟩
 ·obtain ⟨o,es,ep,ho',r⟩:=hnew
  exact ⟨o,es,ep,aj _ (k1 _ _ ho'),r⟩
 ·exact ⟨rfl,h h' tk' (λb o q=>k' b o (lt _ _ q) (hi1 _ _ (k1 _ _ (kp _ _ q))) (kp2 _ _ q)) d'⟩
end
theorem uc {α β:Type}(P:Nat->α->β->Prop):∀(l:List α) (n:Nat),(∀(i:Nat) a,l[i]? = some a->∃b,P (n+i) a b)->∃bs:List β,bs.length=l.length/\∀(i:Nat) a b,l[i]? = some a->bs[i]? = some b->P (n+i) a b
 | [],n,_=>⟨[],rfl,λi a b h=>by simp at h⟩
 | x::r,n,h=>by
  obtain ⟨b,hb⟩:=h 0 x rfl
  obtain ⟨bs,hl,hbs⟩:=uc P r (n+1) λi a hi=>by
   have:=h (i+1) a (by simpa using hi)
   rwa [show n+1+i=n+(i+1) by omega]
  refine ⟨b::bs,by simp [hl],λi a b' h1 h2=>?_⟩
  cases i with
  | zero =>
   simp at h1 h2
   subst h1 h2
   exact hb
  | succ i =>
   have:=hbs i a b' (by simpa using h1) (by simpa using h2)
   rwa [show n+(i+1)=n+1+i by omega]
theorem wY {α β:Type}{F:α->β->Prop}:∀{l₁:List α}{l₂:List β},l₁.length=l₂.length->(∀(i:Nat) a b,l₁[i]? = some a->l₂[i]? = some b->F a b)->cf F l₁ l₂
 | [],[],_,_=>.nil
 | [],_::_,h,_=>by simp at h
 | _::_,[],h,_=>by simp at h
 | x::r,y::t,h,k=>.cons (k 0 x y rfl rfl) (wY (by simpa using h) λi a b h1 h2=>k (i+1) a b (by simpa using h1) (by simpa using h2))
theorem Qj {X:Cx}(K:ai) (hca:X.calm=true) (hK:X.K=K:=by rfl):qA X (.type "dict") (λxs H Q=>∃(p:Addr) (out:List V) (ms:List (Int×Int)),xs=[.ref p]/\SqL K H p out/\cf (λv (m:Int×Int)=>∃b,v=V.ref b/\H b=some (.tup [.int m.1,.int m.2])) out ms/\(ms.map (·.1)).Nodup/\ms.length<=1000 /\
  ∀(d:Addr) H',H d=none->H' d=some (.dK (ms.map λm=>(.inl m.1,.int m.2)))->jn H H'->Q (.ref d) H'):=by
 subst hK
 intro pins s σ H xs us Q I r h
 obtain ⟨p,out,ms,rfl,hq,hm,nd,h1000,k⟩:=h
 obtain ⟨u,rfl,ru⟩:=zt r
 cases ru
 obtain ⟨its,rv,⟨ol,nl,ho,hc,hdc,hdt⟩,hz⟩:=I.list hq
 have hlen:out.length=ms.length:=aP hm
 have hits:out.length=its.length:=rv.length
 obtain ⟨qs,hql,hqs⟩:=uc (λi (m:Int×Int) (q:Key×ae×ae)=>∃(b:Addr) (t1 t2:Tok),q=(.inl m.1,.int m.1 t1,.int m.2 t2)/\its[i]? = some (.ref b)/\s.heap.IsTuple b #[.int m.1 t1,.int m.2 t2]) ms 0 λi m hi=>by
  rw [iQ]
  have hio:i<out.length:=by rw [hlen];exact (List.getElem?_eq_some_iff.mp hi).1
  obtain ⟨m',hm',b,eb,hb⟩:=Paired.get hm (aa hio)
  rw [hi] at hm'
  cases hm'
  obtain ⟨u,hu,ru⟩:=rv.get (aa hio)
  rw [eb] at ru
  cases (show u=aZ b from ru)
  obtain ⟨_,its',r',o,h1,h2,n,h3⟩:=(show jY X.prog X.w H s.heap b (.tup [.int m.1,.int m.2]) from I.hok b _ hb)
  cases r' with
  | cons p1 q1 =>
   cases q1 with
   | cons p2 q2 =>
    cases q2
    obtain ⟨t1,rfl⟩:=p1
    obtain ⟨t2,rfl⟩:=p2
    exact ⟨_,b,t1,t2,rfl,hu,o,h1,h2,n,h3⟩
 have get:∀(i:Nat) (q:Key×ae×ae),qs[i]? = some q->∃(m:Int×Int) (b:Addr) (t1 t2:Tok),ms[i]? = some m/\q=(.inl m.1,.int m.1 t1,.int m.2 t2)/\its[i]? = some (.ref b)/\s.heap.IsTuple b #[.int m.1 t1,.int m.2 t2]:=λi q hi=>by
  have him:i<ms.length:=by rw [<- hql];exact (List.getElem?_eq_some_iff.mp hi).1
  obtain ⟨b,t1,t2,e,h1,h2⟩:=hqs i _ q (aa him) hi
  rw [iQ] at h1
  exact ⟨_,b,t1,t2,aa him,e,h1,h2⟩
 have keys:qs.map (·.1)=ms.map λm=>(cX m.1:Key):=by
  refine i5 λi=>?_
  rw [ar,ar]
  cases e:qs[i]? with
  | none =>
   rw [List.getElem?_eq_none_iff] at e
   rw [List.getElem?_eq_none_iff.mpr ∅]
   rfl
  | some q =>
   obtain ⟨m,b,t1,t2,h1,h2,_⟩:=get i q e
   rw [h1,h2]
   rfl
 have ndk:(qs.map (·.1)).Nodup:=by
  rw [keys,show (ms.map λm=>(cX m.1:Key))=(ms.map (·.1)).map cX by rw [bB];rfl]
  exact List.Pairwise.map _ (λa b h e=>h (dU e)) nd
 have KVr:KV (ms.map λm=>((.inl m.1,.int m.2):Key×V)) (qs.map λq=>(q.1,q.2.2)):=by
  refine wY (by rw [af,af,hql]) λi a b h1 h2=>?_
  rw [ar] at h1 h2
  obtain ⟨q,hq',rfl⟩:=Option.map_eq_some_iff.mp h2
  obtain ⟨m,_,t1,t2,hm',e,_⟩:=get i q hq'
  rw [hm'] at h1
  cases h1
  subst e
  exact ⟨rfl,t2,rfl⟩
 refine Qy (qs:=qs) (I.ok.hd hca) ho hc hdt hdc (by rw [hql];exact aG h1000 ⋯) (λq hq'=>?_) ndk (by simp;omega) (λi q hi=>?_) λh' tk keep dd=>?_
 ·obtain ⟨i,hi,e⟩:=List.mem_iff_getElem.mp hq'
  obtain ⟨m,b,t1,t2,h1,h2,_⟩:=get i q (by rw [aa hi,e])
  subst h2
  exact wX (k:=.inl m.1) ⟨t1,rfl⟩
 ·obtain ⟨m,b,t1,t2,h1,h2,h3,h4⟩:=get i q hi
  subst h2
  exact ⟨b,by simpa using h3,h4⟩
 ·have hf:=I.hok.fresh (ao s.heap.objs.size)
  exact ⟨.ref _,upd H s.heap.objs.size (.dK (ms.map λm=>((.inl m.1,.int m.2):Key×V))),I.laid (t':=tk) keep (ao _) (gP (by rw [af];exact aG h1000 ⋯) (beq_eq_false_iff_ne.mpr (cY (aB I.big))) KVr dd),rfl,k _ _ hf j7 (jn.new hf)⟩
end L2
end
section
namespace L2
open PySem.W
abbrev Cx.noX (X:Cx):Cx:={ X with xe:=λ_ _=>False }
section
variable {X:Cx}{pins:List (Addr×Obj)}{σ:St}{H:Hp}{s:Shared}
theorem Inv.toNoX (I:Inv X pins σ H s):Inv X.noX pins σ H s:=⟨okP I.ok _ rfl,I.os,I.bare,I.base,I.loc,I.cell,I.free,I.freeC,I.pin,I.hok,I.len⟩
theorem Inv.ofNoX (I:Inv X.noX pins σ H s):Inv X pins σ H s:=⟨okP I.ok _ rfl,I.os,I.bare,I.base,I.loc,I.cell,I.free,I.freeC,I.pin,I.hok,I.len⟩
theorem Y1 {st:Stmt}{t:TS}(h:PS X.noX st t):PS X st t:=λpins s σ H D I q=>thn (wpAny_noRaise (h pins s σ H D I.toNoX q)) λ_ _ z=>spOf (λI=>I.ofNoX) z
end
end L2
end
section
namespace L2
open PySem.W
theorem wv:∀(ns:List Int) (its:List ae),its.length=ns.length->(∀i,i<its.length->∃t,its[i]? = some (.int (ns.getD i 0) t))->jz (ns.map V.int) its
 | [],[],_,_=>.nil
 | n::ns,v::its,hl,h=>by
  obtain ⟨t,e⟩:=h 0 (by simp)
  have e:v = .int n t:=by simpa using e
  refine .cons ⟨t,e⟩ (wv ns its (by simpa using hl) λi hi=>?_)
  obtain ⟨t,e⟩:=h (i+1) (by simpa using hi)
  exact ⟨t,by simpa using e⟩
section
variable {X:Cx}
theorem Q6 (K:ai) (hca:X.calm=true) (hK:X.K=K:=by rfl):qA X (.type "list") (λxs H Q=>∃(p:Addr) (kvs:List (Key×V)) (ns:List Int),xs=[.ref p]/\Rd H p (.dK kvs)/\kvs.map (·.1)=ns.map cX/\ns.length<=1000/\New H (.lst (ns.map V.int)) Q):=by
 subst hK
 intro pins s σ H xs us Q I r h
 obtain ⟨p,kvs,ns,rfl,hp0,hks,hl,k⟩:=h
 obtain ⟨u,rfl,ru⟩:=zt r
 cases ru
 obtain ⟨hz,lo,vs,kv,dd⟩:=yA I.hok hp0
 obtain ⟨ep,hat⟩:=dd.dictAt
 have hvl:vs.length=ns.length:=by
  have e1:kvs.length=vs.length:=aP kv
  have e2:=congrArg fm hks
  rw [af,af] at e2
  omega
 refine kdl_call (kdl_dict (knd:=jy X.prog X.w) (kvs:=vs) (ep:=ep) lo) (I.ok.hd hca) hat (cT (je ∅)) λh' tk acc c' hk hD hacc=>?_
 have hal:acc.toList.length=ns.length:=by rw [bI,hacc.1,hvl]
 have item:∀i,i<acc.toList.length->∃t,acc.toList[i]? = some (.int (ns.getD i 0) t):=λi hi=>by
  have hi2:i<acc.size:=by rw [bI] at hi;exact hi
  obtain ⟨key,x,hx,his⟩:=hacc.2 i acc[i] (cN hi2)
  have hi3:i<kvs.length:=by
   have e1:kvs.length=vs.length:=aP kv
   omega
  obtain ⟨q,hq,e1,_⟩:=Paired.get kv (aa hi3)
  rw [hx] at hq
  cases hq
  have e2:(kvs.map (·.1))[i]? = some key:=by rw [ar,aa hi3];exact congrArg some e1
  have hin:i<ns.length:=∅
  rw [hks,ar,aa hin] at e2
  cases e2
  obtain ⟨t,et⟩:=eB his
  refine ⟨t,?_⟩
  rw [l9,cN hi2,et,ak,aa hin]
  rfl
 have hn0:s.heap.get? s.heap.objs.size=none:=by
  cases q:s.heap.get? s.heap.objs.size with
  | none=>rfl
  | some u=>exact absurd (ax q) (bX _)
 obtain ⟨hH,I'⟩:=I.laidN (o:=.lst (ns.map V.int)) (t':=tk) hk hn0 λ_=>⟨by rw [af];exact cT (je hl),acc.toList,c',wv ns _ hal item,by simpa using hD⟩
 exact ⟨.ref s.heap.objs.size,_,I',rfl,k _ _ hH j7 (jn.new hH)⟩
end
end L2
end
section
namespace L2
open PySem.W
section
variable {X:Cx}
theorem yW (K:ai) (hca:X.calm=true) (hK:X.K=K:=by rfl):qA X (.type "dict") (λxs H Q=>∃(p:Addr) (kvs:List (Key×V)),xs=[.ref p]/\Rd H p (.dK kvs)/\∀(d:Addr) H',H d=none->H' d=some (.dK kvs)->jn H H'->Q (.ref d) H'):=by
 subst hK
 intro pins s σ H xs us Q I r h
 obtain ⟨p,kvs,rfl,hp0,k⟩:=h
 obtain ⟨u,rfl,ru⟩:=zt r
 cases ru
 obtain ⟨hz,lo,vs,kv,dd⟩:=yA I.hok hp0
 have hvl:kvs.length=vs.length:=aP kv
 refine kt_call_dict (knd:=jy X.prog X.w) lo dd ∅ λh' hD hS=>?_
 have hf:=I.hok.fresh (ao s.heap.objs.size)
 have keep:∀b o,s.heap.get? b=some o->h'.get? b=some o:=λb o e=>(hS.2 b (aB (ax e))).trans (aj _ e)
 exact ⟨.ref _,upd H s.heap.objs.size (.dK kvs),I.laid (t':=s.toks) keep (ao _) (gP hz (beq_eq_false_iff_ne.mpr (cY (aB I.big))) kv hD),rfl,k _ _ hf j7 (jn.new hf)⟩
theorem Z0:qA X (.builtin "len") (λxs H Q=>∃a kvs,xs=[V.ref a]/\Rd H a (.dK kvs)/\Q (.int kvs.length) H):=by
 intro pins s σ H xs us Q I r h
 obtain ⟨a,kvs,rfl,ha,q⟩:=h
 obtain ⟨u,rfl,ru⟩:=zt r
 cases ru
 exact UK I ha λt s' I'=>⟨.int kvs.length,H,I',⟨t,rfl⟩,q⟩
end
end L2
end
section
namespace K28
open L2
local macro_rules | `(tactic| walk_at "hp")=>`(tactic| first | assumption | exact j7 | (rw [j5 (by first | assumption | (apply cY;assumption))];first | assumption | exact j7))
local macro_rules | `(tactic| walk_at "num")=>`(tactic| first | decide | omega)
local macro_rules | `(tactic| walk_at "rd1")=>`(tactic| first | refine ⟨_,rfl,?_⟩ | refine ⟨_,_,rfl,rfl,?_⟩ | refine ef (show ZG _ _ from lq ⟨by walk_at "num",by walk_at "num"⟩) ?_ | refine ef (show ZG _ _ from aS ⟨by walk_at "num",by walk_at "num"⟩) ?_ | refine ef (show Vi _ _ from ⟨by walk_at "num",by walk_at "num"⟩) ?_ | refine ef (show Wd _ _ from ⟨by walk_at "num",by walk_at "num",by walk_at "num"⟩) ?_ | refine ef (show (0:Int)<_ by walk_at "num") ?_ | refine ⟨_,_,_,_,rfl,rfl,SqL.of (by walk_at "hp"),(by rfl),?_⟩ | refine ⟨_,_,_,_,rfl,rfl,SqT.of (by walk_at "hp"),(by rfl),?_⟩ | refine ⟨_,_,_,_,rfl,rfl,(by assumption),(by rfl),?_⟩ | refine ⟨_,_,_,_,rfl,rfl,(by walk_at "hp"),(by rfl),?_⟩ | refine ⟨rfl,?_⟩)
local macro_rules | `(tactic| walk_at "r")=>`(tactic| repeat walk_at "rd1")
local macro_rules | `(tactic| walk_at "s")=>`(tactic| exact ⟨rfl,rfl,rfl,by decide +kernel,rfl,by decide +kernel,by decide +kernel⟩)
local macro_rules | `(tactic| walk_at "k")=>`(tactic| decide +kernel)
local macro_rules | `(())=>`(by omega)
local macro_rules | `(∅)=>`(by decide +kernel)
local macro_rules | `(tactic| walk_at "w")=>`(tactic| (intro _ z;cases z))
local macro_rules | `(tactic| walk_at "z")=>`(tactic| (intro z;cases z))
def top (i:Nat):Stmt:=PySem.Challenge.pw_firnfall_k28_whole_more_ice_never_lets_o.main.body.getD i (.Pass ⟨0,0,0,0⟩)
abbrev xU:Stmt:=top 16
abbrev zB:Stmt:=top 17
abbrev yJ:Stmt:=top 18
abbrev gJ:Stmt:=top 19
abbrev qH:Stmt:=top 20
abbrev yU:Stmt:=top 21
abbrev wD:Stmt:=top 22
abbrev x6:Stmt:=top 23
abbrev yn:Stmt:=top 24
abbrev zH:Stmt:=top 29
abbrev zM:Stmt:=top 30
abbrev uS:Stmt:=top 31
abbrev zE:Stmt:=top 36
abbrev zh:Stmt:=top 37
abbrev zn:Stmt:=top 38
abbrev qu:Stmt:=(xG (top 39) 0)
abbrev xj:Stmt:=(xG (top 39) 4)
abbrev x0:Stmt:=(xG (top 39) 5)
abbrev zg:Stmt:=(xG (top 39) 6)
abbrev zf:Stmt:=(xG (top 39) 7)
abbrev y7:Stmt:=(xG (top 39) 8)
abbrev zK:Stmt:=(xG (top 39) 10)
abbrev xx:Stmt:=(xG (top 39) 14)
abbrev yH:Stmt:=(xG (top 39) 16)
abbrev yk:Stmt:=top 41
abbrev yC:Stmt:=top 42
abbrev wE:Stmt:=top 43
abbrev QD:Stmt:=top 44
abbrev Q0:Stmt:=top 46
abbrev uH:Stmt:=top 47
abbrev Y2:Stmt:=top 49
abbrev QF:Stmt:=top 50
abbrev vZ:Stmt:=top 52
abbrev zT:Stmt:=top 53
abbrev yS:Stmt:=top 54
abbrev vS:Stmt:=top 55
abbrev ze:Stmt:=top 56
abbrev zd:Stmt:=top 57
abbrev qd:Stmt:=top 58
abbrev qU:Stmt:=top 59
abbrev xA:Stmt:=top 60
abbrev zJ:Stmt:=top 61
abbrev yP:Stmt:=top 62
abbrev xD:Stmt:=top 63
abbrev yD:Stmt:=top 64
abbrev yV:Stmt:=top 65
abbrev qM:Stmt:=top 66
abbrev zL:Stmt:=top 67
abbrev vI:Stmt:=top 68
section
variable {P:Program}{w:aX}{K:ai}{mg:Str->Option ae}{base:Heap}
abbrev VN:Pos:=⟨47,28,47,49⟩
abbrev qm (H:Hp) (Pt:Addr):Prop:=Tab H Pt VN (("lanes" : Str) ++ ".<locals>." ++ "<lambda>")
def Xg:Sp:=λvs H Q _=>∃(i:Nat) (t:Int),vs=[.int i,.int t]/\Q (.bl (xo i t)) H
theorem Jn:FnScope ["number","to"] ["number","to"] (j8 yJ):=by walk_at "s"
theorem Jv {f:Addr}{fd:FuncData}(F:Fun K "leads_on" "leads_on" yJ f fd):FnOk P w K mg base CX0 1 f fd ["number","to"] Xg:=by
 refine F.ok Jn (λvs H Q E h=>?_) (λcdv A outer s H vs Q E hr h=>?_)
 ·obtain ⟨i,t,rfl,_⟩:=h
  rfl
 ·obtain ⟨i,t,rfl,k⟩:=h
  refine ⟨_,(j4 (qj (jI wg (pv 0) j6 (qe _)) (j9 (jj (gy wg (pv 1) (uK yL j6) (qe _)))) jD)
   (j9 (jj (zx qq yw j6 (pv 1) (pv 0))))),?_⟩
  have fin:∀b:Bool,b=xo i t->Q (.bl b) H:=λb e=>by rw [e];exact k
  walk_at "r"
  refine qS (λh1=>?_) (λh1=>?_)
  ·walk_at "r"
   have h1':i=0:=by have:=V.int.inj h1;omega
   refine fin _ ?_
   unfold xo
   rw [if_pos h1']
   exact decide_eq_decide.mpr ⟨λz=>V.int.inj z,λz=>by rw [z]⟩
  ·have h1':i≠0:=λz=>h1 (by rw [z];rfl)
   walk_at "r"
   refine qS (λh2=>?_) (λh2=>?_)
   ·walk_at "r"
    refine fin _ ?_
    unfold xo
    rw [if_neg h1']
    exact decide_eq_decide.mpr ⟨λz=>⟨h2,z⟩,λz=>z.2⟩
   ·refine fin _ ?_
    unfold xo
    rw [if_neg h1',decide_eq_false (λz=>h2 z.1)]
def Xd:Sp:=λvs H Q _=>∃(i:Nat) (v:V) (r:Rch),vs=[.int i,v]/\gH H v r/\r.2.length<=100/\∀H',jn H H'->Q (.bl (okR i r)) H'
theorem zV:FnScope ["number","reach","to","slope"] ["number","reach"] (j8 zB):=by walk_at "s"
theorem JF {f:Addr}{fd:FuncData}{u0 u1:Tok}(nb:Nb2 mg) (g_MOST_HEIGHTS:mg "MOST_HEIGHTS" = some (.int 12 u0)) (g_GREATEST_HEIGHT:mg "GREATEST_HEIGHT" = some (.int 99 u1)) (c_leads_on:Cal P w K mg base 1 "leads_on" ["number","to"] Xg) (F:Fun K "is_reach" "is_reach" zB f fd):FnOk P w K mg base CX0 2 f fd ["number","reach"] Xd:=by
 refine F.ok zV (λvs H Q E h=>?_) (λcdv A outer s H vs Q E hr h=>?_)
 ·obtain ⟨i,v,r,rfl,_⟩:=h
  rfl
 ·obtain ⟨i,v,⟨t,hs⟩,rfl,⟨p,g,rfl,hp,hg⟩,h100,k⟩:=h
  have h100':hs.length<=100:=h100
  have fin:∀(b:Bool) (H':Hp),jn H H'->b=okR i (t,hs)->Q (.bl b) H':=λb H' sm e=>by rw [e];exact k H' sm
  refine ⟨_,(j4 (xR (pv 1) (qI (n:=2) K rfl (jr (jc (i:=2) zV.nd rfl (aS rfl)) (jr (jc (i:=3) zV.nd rfl (aS rfl)) qN))))
   (j4 (qj (PW.pt (Y0 (qT (yN (jd c_leads_on (hr.mono ⋯) rfl (j0 (pv 0) (j0 (pv 2) j2))))) (ZZ (qT (x5 qq qq j6 (jg (jf K) rfl nb.b_len aT (j0 (pv 3) j2)) (qX (v:=V.int 12) rfl g_MOST_HEIGHTS ⟨_,rfl⟩)))))) (j9 (jj kD)) jD)
   (j9 (jj (jg (yf K rfl) rfl nb.b_all oj (j0 (jX (osc:=(j8 zB)) (ON:=["number","reach","to","slope"]) (N:=["height"]) (own:=1) (caps:=[]) ⟨rfl,∅,∅,∅,rfl,∅⟩ rfl rfl rfl (vi K (pv 3)) (λ_ _ _ _ _=>(jc (i:=0) (show bj (["height"]:List Str) by decide +kernel) rfl (aS rfl))) (λ_ _ _ _ _=>jF) (λ_ _ _ _ _=>(zx qq qq j6 (pv 0) (qX (v:=V.int 99) rfl g_GREATEST_HEIGHT ⟨_,rfl⟩)))) j2)))))),?_⟩
  walk_at "r"
  refine ⟨p,_,rfl,SqT.of hp,rfl,?_⟩
  refine ⟨_,_,rfl,_,_,rfl,rfl,?_⟩
  walk_at "r"
  refine ⟨i,t,rfl,?_⟩
  walk_at "r"
  cases hl:xo i t with
  | false =>
   refine wL ?_
   walk_at "r"
   exact fin _ H (jn.refl H) (by unfold okR;rw [hl];rfl)
  | true =>
   refine VD ?_
   walk_at "r"
   refine ⟨_,_,rfl,.inr (SqT.of hg),?_⟩
   walk_at "r"
   rw [af]
   refine qS (λh1=>?_) (λh1=>?_)
   ·walk_at "r"
    refine zy (λh2=>?_) (λh2=>?_)
    ·walk_at "r"
     exact fin _ H (jn.refl H) (by unfold okR;rw [hl,decide_eq_false (λz=>h2 z.2)];rfl)
    ·walk_at "r"
     refine ⟨⟨_,SqT.of hg⟩,λacc hacc=>?_⟩
     refine JH (K:=K) (a:=g) (xs:=hs.map V.int) (acc:=acc) (λj σ H2=>∃x:Option V,σ=[x]/\H2 acc=some (.lst (((hs.take j).map λx=>decide (0<=x/\x<=99)).map V.bl))/\Ext acc H H2) ?_ ?_ ?_ ?_
     ·exact ⟨none,rfl,j7,Ext.put⟩
     ·rintro j σ H2 hj ⟨x,rfl,h3,e3⟩
      exact SqT.of (e3 _ _ hg (j1 hg hacc))
     ·rintro j v σ H2 hv ⟨x,rfl,h3,e3⟩
      obtain ⟨z,rfl⟩:=zY hv
      have hz:hs[j]? = some z:=by
       rw [ar] at hv
       cases e:hs[j]? with
       | none=>rw [e] at hv;cases hv
       | some y=>rw [e] at hv;cases hv;rfl
      have hj:j<hs.length:=(List.getElem?_eq_some_iff.mp hz).1
      have done:∀b:Bool,b=decide (0<=z/\z<=99)->∃ys,H2 acc=some (.lst ys)/\ys.length<sizeLine/\∃x:Option V,[some (V.int z)]=[x]/\upd H2 acc (.lst (ys++[V.bl b])) acc=some (.lst (((hs.take (j+1)).map λx=>decide (0<=x/\x<=99)).map V.bl))/\Ext acc H (upd H2 acc (.lst (ys++[V.bl b]))):=λb e=>by
       refine ⟨_,h3,by rw [af,af,aW];exact je (),_,rfl,?_,e3.trans Ext.put⟩
       rw [j7,qr (λx=>decide (0<=x/\x<=99)) hs j z hz,aE,e]
       rfl
      walk_at "r"
      refine qS (λh4=>?_) (λh4=>?_)
      ·walk_at "r"
       exact done _ (decide_eq_decide.mpr ⟨λy=>⟨h4,y⟩,λy=>y.2⟩)
      ·exact done _ (decide_eq_false λy=>h4 y.1).symm
     ·rintro σ H2 ⟨x,rfl,h3,e3⟩
      rw [af,bb] at h3
      refine ⟨acc,_,rfl,SqL.of h3,?_⟩
      refine fin _ H2 (λc o hc=>e3 c o hc (j1 hc hacc)) ?_
      unfold okR
      rw [hl,decide_eq_true (show (1<=(hs.length:Int)/\(hs.length:Int)<=12) from ⟨h1,h2⟩),eP]
      rfl
   ·refine ⟨_,rfl,wL ?_⟩
    walk_at "r"
    exact fin _ H (jn.refl H) (by unfold okR;rw [hl,decide_eq_false (λz=>h1 z.1)];rfl)
def ko (K:ai):Sp:=λvs H Q _=>∃(p:Addr) (xs:List V) (rs:List Rch) (h:Nat),vs=[.ref p,.int h]/\H p=some (.lst xs)/\jN H xs rs/\x4 rs/\h<rs.length/\rs.length<=100/\∀t H',H t=none->H' t=some (.tup ((qk rs h).map V.int))->jn H H'->Q (.ref t) H'
theorem xY:FnScope ["reaches","head","way","reach"] ["reaches","head"] (j8 yU):=by walk_at "s"
theorem JB {f:Addr}{fd:FuncData}(nb:Nb2 mg) (F:Fun K "way_down" "way_down" yU f fd):FnOk P w K mg base CX0 1 f fd ["reaches","head"] (ko K):=by
 refine F.ok xY (λvs H Q E h=>?_) (λcdv A outer s H vs Q E hr h=>?_)
 ·obtain ⟨p,xs,rs,h,rfl,_⟩:=h
  rfl
 ·obtain ⟨p,xs,rs,h,rfl,hp,hrw,L,hh,h100,k⟩:=h
  refine ⟨_,(j4 (ju 2 xY.nd (jM j2))
   (j4 (ju 3 xY.nd (pv 1))
   (j4 (Jq bt (jI Jt (pv 3) j6 (qe _)) (j4 (jU (zW K bC bz bA qv (pv 2) (j0 (pv 3) j2)))
   (j9 (ju 3 xY.nd (jp (qo K) (jp (jb K) (pv 0) (pv 3) (λ_ _=>rfl)) j6 (λ_ _=>rfl))))))
   (j9 (jj (jT (xQ K) rfl nb.b_tuple cw (j0 (pv 2) j2))))))),?_⟩
  walk_at "r"
  refine ⟨aJ _,λwy H1 hwy hwy1 s1=>?_⟩
  walk_at "r"
  have hlen:=hrw.length
  refine gS (λσ H2=>∃(pre:List Int) (r:Int),σ=[some (.ref p),some (.int h),some (.ref wy),some (.int r)]/\H2 wy=some (.lst (pre.map V.int))/\Ext wy H1 H2 /\ -1<=r/\r<rs.length/\pre.length+(r+1).toNat<=100/\pre++(if r<0 then [] else qk rs r.toNat)=qk rs h) (λσ H2=>match σ with | [_,_,_,some (.int r)]=>(r+1).toNat | _=>0) ?_ ?_ ?_
  ·refine ⟨[],h,rfl,hwy1,Ext.refl,(),(),by simp;omega,?_⟩
   rw [if_neg ()]
   rfl
  ·rintro σ H2 ⟨pre,r,rfl,hw2,e2,r0,r1,rl,heq⟩
   walk_at "r"
   refine qS (λhr0=>?_) (λhr0=>?_)
   ·have hp2:H2 p=some (.lst xs):=e2 _ _ (s1 _ _ hp) (j1 hp hwy)
    have hrw2:jN H2 xs rs:=hrw.keep ((ji.same s1).trans (ji.lst e2 hwy1))
    have hi:r.toNat<rs.length:=()
    obtain ⟨v,hv,q,g,rfl,hq,hg⟩:=hrw2.at (aa hi)
    have ht:=L.lt hi
    have ht2:=(uN (L _ hi)).2.1
    have et:=kU (aa hi)
    rw [et] at ht ht2
    generalize (rs[r.toNat]'hi).1=tt at ht ht2 et hq
    walk_at "r"
    refine ⟨.inl ⟨rfl,_,SqL.of hw2⟩,?_⟩
    walk_at "r"
    refine ⟨wy,_,_,rfl,rfl,hw2,by rw [af];exact je (),?_⟩
    have hne:q≠wy:=jh hq hw2 (by walk_at "z")
    have hp3:upd H2 wy (.lst (pre.map V.int++[.int r])) p=some (.lst xs):=by rw [j5 (j1 hp hwy)];exact hp2
    have hq3:upd H2 wy (.lst (pre.map V.int++[.int r])) q=some (.tup [.int tt,.ref g]):=by rw [j5 hne];exact hq
    walk_at "r"
    refine ⟨_,_,_,_,rfl,rfl,SqL.of hp3,qx hr0 hv,?_⟩
    refine ⟨_,_,_,_,rfl,rfl,SqT.of hq3,rfl,?_⟩
    refine ⟨⟨pre++[r],tt,rfl,?_,e2.trans Ext.put,(),(),?_,?_⟩,?_⟩
    ·rw [j7,aE];rfl
    ·rw [av,aU];omega
    ·rw [<- heq,if_neg (show ¬r<0 by omega),xX L hi,et,dv]
     congr 1
     show r::_=_
     congr 1
     omega
    ·show (tt+1).toNat<(r+1).toNat
     omega
   ·rw [if_pos (),br] at heq
    subst heq
    walk_at "r"
    refine ⟨wy,_,rfl,SqL.of hw2,λt H3 ht ht3 s3=>?_⟩
    exact k t H3 (s1.free (e2.free ht (λz=>by rw [z,hw2] at ht;cases ht))) ht3 (λc o hc=>s3 _ _ (e2 _ _ (s1 _ _ hc) (j1 hc hwy)))
  ·intro σ H2 Q1 Q2 hQ h
   obtain ⟨v,e,r⟩:=h
   obtain ⟨i,j,e1,e2,kk,e3,r⟩:=r
   exact ⟨v,e,i,j,e1,e2,kk,e3,hQ _ _ r⟩
def QY (K:ai):Sp:=λvs H Q _=>∃(p a:Addr) (xs:List V) (rs:List Rch) (way:List Int),vs=[.ref p,.ref a]/\H p=some (.lst xs)/\jN H xs rs/\(∀r∈rs,r.2.length<=100)/\H a=some (.tup (way.map V.int))/\(∀r∈way,0<=r/\r<rs.length)/\way.length<=100/\∀H',jn H H'->Q (.int (jx rs way)) H'
theorem ut:FnScope ["reaches","way"] ["reaches","way"] (j8 x6):=by walk_at "s"
theorem uw {f:Addr}{fd:FuncData}(nb:Nb2 mg) (F:Fun K "count_places" "count_places" x6 f fd):FnOk P w K mg base CX0 1 f fd ["reaches","way"] (QY K):=by
 refine F.ok ut (λvs H Q E h=>?_) (λcdv A outer s H vs Q E hr h=>?_)
 ·obtain ⟨p,a,xs,rs,way,rfl,_⟩:=h
  rfl
 ·obtain ⟨p,a,xs,rs,way,rfl,hp,hrw,h100,ha,hin,hwl,k⟩:=h
  have hlen:=hrw.length
  refine ⟨_,(j9 (jj (jg (Jm K rfl) rfl nb.b_sum boot_sum (j0 (jX (osc:=(j8 x6)) (ON:=["reaches","way"]) (N:=["reach","reaches"]) (own:=1) (caps:=[0]) ⟨rfl,∅,∅,∅,rfl,∅⟩ rfl rfl rfl (vi K (pv 1)) (λ_ _ _ _ _=>(jc (i:=0) (show bj (["reach","reaches"]:List Str) by decide +kernel) rfl (aS rfl))) (λ_ _ _ _ _=>jF) (λ_ _ _ _ _=>(jg (jf K) rfl nb.b_len aT (j0 (jp (qo K) (jp (jb K) (pv 1) (pv 0) (λ_ _=>rfl)) j6 (λ_ _=>rfl)) j2)))) j2)))),?_⟩
  walk_at "r"
  refine ⟨⟨_,SqT.of ha⟩,λacc hacc=>?_⟩
  refine JH (K:=K) (a:=a) (xs:=way.map V.int) (acc:=acc) (λj σ H2=>∃x:Option V,σ=[x,some (.ref p)]/\H2 acc=some (.lst (((way.take j).map λr=>((zo rs r.toNat).length:Int)).map V.int))/\Ext acc H H2) ?_ ?_ ?_ ?_
  ·exact ⟨none,rfl,j7,Ext.put⟩
  ·rintro j σ H2 hj ⟨x,rfl,h3,e3⟩
   exact SqT.of (e3 _ _ ha (j1 ha hacc))
  ·rintro j v σ H2 hv ⟨x,rfl,h3,e3⟩
   obtain ⟨r,rfl⟩:=zY hv
   have hz:way[j]? = some r:=by
    rw [ar] at hv
    cases e:way[j]? with
    | none=>rw [e] at hv;cases hv
    | some y=>rw [e] at hv;cases hv;rfl
   have hj:j<way.length:=(List.getElem?_eq_some_iff.mp hz).1
   have hr:=hin r (au hz)
   have hi:r.toNat<rs.length:=()
   obtain ⟨v,hv',q,g,rfl,hq,hg⟩:=(hrw.keep (ji.new e3 hacc)).at (aa hi)
   walk_at "r"
   refine ⟨_,_,_,_,rfl,rfl,SqL.of (e3 _ _ hp (j1 hp hacc)),qx hr.1 hv',?_⟩
   refine ⟨_,_,_,_,rfl,rfl,SqT.of hq,rfl,?_⟩
   refine ⟨_,_,rfl,.inr (SqT.of hg),?_⟩
   refine ⟨_,h3,by rw [af,af,aW];exact je (),_,rfl,?_,e3.trans Ext.put⟩
   rw [j7,qr (λr:Int=>((zo rs r.toNat).length:Int)) way j r hz,aE,hW (aa hi),af]
   rfl
  ·rintro σ H2 ⟨x,rfl,h3,e3⟩
   rw [af,bb] at h3
   refine ⟨acc,_,rfl,SqL.of h3,by rw [af];omega,λn hn=>?_,?_⟩
   ·obtain ⟨r,hr,rfl⟩:=List.mem_map.mp hn
    have hb:=hin r hr
    have hi:r.toNat<rs.length:=()
    have:=h100 _ (bH hi)
    rw [hW (aa hi)]
    omega
   ·exact k H2 λc o hc=>e3 c o hc (j1 hc hacc)
def vf (K:ai) (Pt:Addr):Sp:=λvs H Q _=>∃(p:Addr) (xs:List V) (rs:List Rch),vs=[.ref p]/\H p=some (.lst xs)/\jN H xs rs/\x4 rs/\rs.length<=60/\qm H Pt/\∀l H' out ws,H l=none->H' l=some (.lst out)->zu H' out ws->jQ rs ws->Ext Pt H H'->qm H' Pt->Q (.ref l) H'
theorem uF:FnScope ["reaches","entered","ways"] ["reaches"] (j8 qH):=by walk_at "s"
theorem gY {α:Type}(l:List α) (d:α):((aO l.length).map λi=>l.getD i d)=l:=by
 apply iq
 ·simp
 ·intro i h1 h2
  simp [h2]
theorem kg {H:Hp}{vs:List V}{ws:List (List Int)}(h:zu H vs ws):∀ix:List Nat,(∀i∈ix,i<vs.length)->zu H (ix.map λi=>vs.getD i V.non) (ix.map λi=>ws.getD i [])
 | [],_=>.nil
 | i::ix,hb=>by
  refine .cons ?_ (kg h ix λj hj=>hb j (az _ hj))
  have hi:=hb i aC
  obtain ⟨y,e2,a,e3,e4⟩:=Paired.get h (aa hi)
  refine ⟨a,?_,?_⟩
  ·show vs.getD i V.non=V.ref a
   rw [ak,aa hi];exact e3
  ·show H a=some (.tup ((ws.getD i []).map V.int))
   rw [ak,e2];exact e4
theorem gm {rs:List Rch}{roads:List (List Int)}{vs out:List V}{H H':Hp}(hr:roads=(jm rs).map (qk rs)) (hv:zu H vs roads) (k:ji H H') (hs:vH uu (λi=>(roads.getD i []).reverse) vs out):∃ws,zu H' out ws/\jQ rs ws:=by
 obtain ⟨ix,hp,e,hpw⟩:=hs
 have hb:∀i∈ix,i<vs.length:=λi hi=>by have:=hp.mem_iff.mp hi;simpa using this
 refine ⟨ix.map λi=>roads.getD i [],by rw [e];exact (kg hv ix hb).keep k,?_,?_⟩
 ·have:=hp.map λi=>roads.getD i []
  rw [hv.length,gY] at this
  rw [<- hr]
  exact this
 ·rw [bB]
  exact hpw
theorem Zs {f c Pt:Addr}{oc:ae}{od an:Option Addr}{osl:Array (Option ae)}{kV doc pm ct:ae}(nb:Nb2 mg) (c_way_down:Cal P w K mg base 1 "way_down" ["reaches","head"] (ko K)) (CH:PySem.W.CodeHd base c Pt) (hBm:Bm mg base)
  (l:K.lookup f=some ⟨oc,od,.func (bw "lanes" "lanes" (jP qH) (jH qH) (j8 qH) .none kV doc pm an (.ref c) ct),osl⟩) (cd:c6 K (.ref c) "lanes" = true) :
  FnOk P w K mg base CX0 5 f (bw "lanes" "lanes" (jP qH) (jH qH) (j8 qH) .none kV doc pm an (.ref c) ct) ["reaches"] (vf K Pt):=by
 refine Fun.okC l cd uF (λvs H Q E h=>?_) (λA outer s H vs Q E hr h=>?_)
 ·obtain ⟨p,xs,rs,rfl,_⟩:=h
  rfl
 ·obtain ⟨p,xs,rs,rfl,hp,hrw,L,h60,hT,k⟩:=h
  have hlen:=hrw.length
  refine ⟨_,(j4 (uQ (i:=1) uF.nd rfl (lq rfl) (jX (osc:=(j8 qH)) (ON:=["reaches","entered","ways"]) (N:=["to","slope"]) (own:=2) (caps:=[]) ⟨rfl,∅,∅,∅,rfl,∅⟩ rfl rfl rfl (jW K (pv 0)) (λ_ _ _ _ _=>(qI (n:=2) K rfl (jr (jc (i:=0) (show bj (["to","slope"]:List Str) by decide +kernel) rfl (aS rfl)) (jr (jc (i:=1) (show bj (["to","slope"]:List Str) by decide +kernel) rfl (aS rfl)) qN)))) (λ_ _ _ _ _=>jF) (λ_ _ _ _ _=>(pv 0))))
   (j4 (Xp (j:=2) (osc:=(j8 qH)) (ON:=["reaches","entered","ways"]) (N:=["head","reaches","entered"]) (own:=1) (caps:=[0,1]) ⟨rfl,∅,∅,∅,rfl,∅⟩ uF.nd rfl (aS rfl) rfl rfl rfl (qw rfl nb.b_range (j0 (jg (jf K) rfl nb.b_len aT (j0 (pv 0) j2)) j2)) (λ_ _ _ _ _=>(jc (i:=0) (show bj (["head","reaches","entered"]:List Str) by decide +kernel) rfl (aS rfl))) (λ_ _ _ _ _=>(w9 (jI (zi K) (pv 0) (pv 2) (by with_unfolding_all rfl)))) (λ_ _ _ _ _=>(jd c_way_down (hr.mono ⋯) rfl (j0 (pv 1) (j0 (pv 0) j2)))))
   (j9 (jj (JS (N:=["way"]) (x:="way") (k:=0) rfl nb.b_sorted (j0 (pv 2) j2) rfl CH hBm (hr.mono ⋯) (by walk_at "s") (λ_ _ _ _=>rfl) (λ_ _ _ _=>(Yx K (pv 0)))))))),?_⟩
  walk_at "r"
  refine ⟨⟨_,SqL.of hp⟩,λen hen=>?_⟩
  refine qg (K:=K) (a:=p) (xs:=xs) (acc:=en) (λj σ H2=>∃x y:Option V,σ=[x,y]/\H2 en=some (.lst (((rs.take j).map (·.1)).map V.int))/\Ext en H H2) ?_ ?_ ?_ ?_
  ·exact ⟨none,none,rfl,j7,Ext.put⟩
  ·rintro j σ H2 hj ⟨x,y,rfl,h3,e3⟩
   exact SqL.of (e3 _ _ hp (j1 hp hen))
  ·rintro j v σ H2 hv ⟨x,y,rfl,h3,e3⟩
   obtain ⟨r,hr,q,g,rfl,hq,hg⟩:=(hrw.keep (ji.new e3 hen)).get hv
   have hj:j<rs.length:=(List.getElem?_eq_some_iff.mp hr).1
   walk_at "r"
   refine ⟨q,_,rfl,SqT.of hq,rfl,?_⟩
   refine ⟨_,_,rfl,_,_,rfl,rfl,?_⟩
   walk_at "r"
   refine ⟨_,h3,by rw [af,af,aW];exact je (),_,_,rfl,?_,e3.trans Ext.put⟩
   rw [j7,qr (λr:Rch=>r.1) rs j r hr,aE]
   rfl
  ·rintro σ H2 ⟨x,y,rfl,h3,e3⟩
   rw [hlen,bb] at h3
   have hp2:=e3 _ _ hp (j1 hp hen)
   have hrw2:jN H2 xs rs:=hrw.keep (ji.new e3 hen)
   have hT2:qm H2 Pt:=hT.extN hen e3
   walk_at "r"
   refine ⟨_,_,rfl,.inl (SqL.of hp2),?_⟩
   refine ⟨_,rfl,(),(),λwy hwy=>?_⟩
   rw [hlen]
   refine xq (lo:=0) (n:=((rs.length:Nat):Int).toNat) (acc:=wy) (λj σ H3=>∃(x:Option V) (vs:List V),σ=[x,some (.ref p),some (.ref en)]/\H3 wy=some (.lst vs)/\zu H3 vs (((aO j).filter (jG rs)).map (qk rs))/\Ext wy H2 H3/\vs.length<=j) ?_ ?_ ?_
   ·exact ⟨none,[],rfl,j7,.nil,Ext.put,ao _⟩
   ·rintro j σ H3 hj ⟨x,vs,rfl,h4,w4,e4,l4⟩
    have hj':j<rs.length:=()
    have hen4:=e4 _ _ h3 (j1 h3 hwy)
    have hp4:=e4 _ _ hp2 (j1 hp2 hwy)
    have hrw4:jN H3 xs rs:=hrw2.keep (ji.new e4 hwy)
    have er:(aO (j+1)).filter (jG rs)=(aO j).filter (jG rs)++(if jG rs j=true then [j] else []):=by
     rw [cR,cK]
     congr 1
     by_cases z:jG rs j=true
     ·rw [if_pos z];simp [z]
     ·rw [if_neg z];simp [z]
    walk_at "r"
    refine ⟨en,_,rfl,.inl (SqL.of hen4),rfl,yh _,?_⟩
    walk_at "r"
    rw [iS,vC]
    refine zy (λhin=>?_) (λhin=>?_)
    ·have hb:jG rs j=true:=by unfold jG;rw [decide_eq_false (show ¬(j:Int)∈tos rs from hin)];rfl
     walk_at "r"
     refine ⟨p,xs,rs,j,rfl,hp4,hrw4,L,hj',(),λt H5 ht ht5 s5=>?_⟩
     have nt:t≠wy:=λz=>by rw [z,h4] at ht;cases ht
     have h5:=s5 _ _ h4
     refine ⟨vs,h5,je (),_,vs++[.ref t],rfl,j7,?_,λc o hc n=>by rw [j5 n];exact s5 _ _ (e4 c o hc n),by rw [av,aU];omega⟩
     rw [er,if_pos hb,aE]
     exact zu.keep (ji.lst Ext.put h5) (cu (w4.keep (ji.same s5)) ⟨t,rfl,ht5⟩)
    ·have hb:¬jG rs j=true:=by unfold jG;rw [decide_eq_true (show (j:Int)∈tos rs from hin)];exact aq
     refine ⟨_,vs,rfl,h4,?_,e4,()⟩
     rw [er,if_neg hb,br]
     exact w4
   ·rintro σ H3 ⟨x,vs,rfl,h4,w4,e4,l4⟩
    have hT3:qm H3 Pt:=hT2.extN hwy e4
    obtain ⟨ps,hPt⟩:=hT3.ne
    rw [bK] at w4 l4
    have hvl:=w4.length
    walk_at "r"
    refine ⟨hT3,wy,vs,λi=>((((jm rs).map (qk rs)).getD i []).reverse),rfl,SqL.of h4,(),λi hi z=>?_,λH5 X5 i v hv=>?_,λlo H5 out hlo hlo5 X5 T5 hs=>?_⟩
    ·have hi2:i<(jm rs).length:=by
      rw [af] at hvl
      exact Nat.lt_of_lt_of_eq hi hvl
     have z2:((jm rs).map (qk rs)).getD i []=[]:=List.reverse_eq_nil_iff.mp z
     rw [ak,ar,aa hi2] at z2
     exact V1 _ z2
    ·obtain ⟨y,e2,a,rfl,ha⟩:=Paired.get w4 hv
     have ha5:=ji.tbl X5 hPt _ _ ha
     walk_at "r"
     refine ⟨a,_,rfl,SqT.of ha5,λq H6 hq hq6 s6=>⟨s6,q,rfl,?_⟩⟩
     show H6 q=some (.tup (((((jm rs).map (qk rs)).getD i []).reverse).map V.int))
     rw [hq6,ak,show ((jm rs).map (qk rs))[i]? = some y from e2,<- mO]
     rfl
    ·obtain ⟨ws,hw,hrd⟩:=gm (rs:=rs) rfl w4 (ji.tbl X5 hPt) hs
     have wyP:wy≠Pt:=jh h4 hPt (by walk_at "z")
     have enP:en≠Pt:=jh (e4 _ _ h3 (j1 h3 hwy)) hPt (by walk_at "z")
     have hlo3:H lo=none:=by
      have a1:H2 lo=none:=e4.free hlo (λz=>by rw [z,h4] at hlo;cases hlo)
      exact e3.free a1 (λz=>by rw [z,h3] at a1;cases a1)
     exact k lo H5 out ws hlo3 hlo5 hw hrd (λc o hc n=>X5 _ _ (e4 _ _ (e3 _ _ hc (j1 hc hen)) (j1 (e3 _ _ hc (j1 hc hen)) hwy)) n) T5
def ZV (K:ai):Sp:=λvs H Q _=>∃(p wl:Addr) (xs out:List V) (rs:List Rch) (ws:List (List Int)),vs=[.ref p,.ref wl]/\H p=some (.lst xs)/\jN H xs rs/\(∀r∈rs,r.2.length<=100)/\H wl=some (.lst out)/\zu H out ws/\jQ rs ws/\x4 rs/\rs.length<=60 /\
 ∀H',jn H H'->Q (.bl (decide (((jm rs).length:Int)<=6) && (jm rs).all λh=>decide (jx rs (qk rs h)<=30))) H'
theorem YM:FnScope ["reaches","ways"] ["reaches","ways"] (j8 gJ):=by walk_at "s"
theorem YA {f:Addr}{fd:FuncData}{u0 u1:Tok}(nb:Nb2 mg) (g_MOST_LANES:mg "MOST_LANES" = some (.int 6 u0)) (g_LONGEST_LANE:mg "LONGEST_LANE" = some (.int 30 u1)) (c_count_places:Cal P w K mg base 1 "count_places" ["reaches","way"] (QY K)) (F:Fun K "fits" "fits" gJ f fd):FnOk P w K mg base CX0 2 f fd ["reaches","ways"] (ZV K):=by
 refine F.ok YM (λvs H Q E h=>?_) (λcdv A outer s H vs Q E hr h=>?_)
 ·obtain ⟨p,wl,xs,out,rs,ws,rfl,_⟩:=h
  rfl
 ·obtain ⟨p,wl,xs,out,rs,ws,rfl,hp,hrw,h100,hw,hws,hrd,L,h60,k⟩:=h
  have hwl:=hws.length
  have hrl:=hrd.length
  have hhl:(jm rs).length<=60:=by
   unfold jm
   exact aG (cj _ _) (by rw [bL];exact h60)
  have fin:∀(b:Bool) (H':Hp),jn H H'->b=(decide (((jm rs).length:Int)<=6) && (jm rs).all λh=>decide (jx rs (qk rs h)<=30))->Q (.bl b) H':=λb H' sm e=>by rw [e];exact k H' sm
  refine ⟨_,(j9 (jj (gK (gy qq (jg (jf K) rfl nb.b_len aT (j0 (pv 1) j2)) (qX (v:=V.int 6) rfl g_MOST_LANES ⟨_,rfl⟩) (qe _)) (QG (jg (yf K rfl) rfl nb.b_all oj (j0 (jX (osc:=(j8 gJ)) (ON:=["reaches","ways"]) (N:=["way","reaches"]) (own:=1) (caps:=[0]) ⟨rfl,∅,∅,∅,rfl,∅⟩ rfl rfl rfl (jW K (pv 1)) (λ_ _ _ _ _=>(jc (i:=0) (show bj (["way","reaches"]:List Str) by decide +kernel) rfl (aS rfl))) (λ_ _ _ _ _=>jF) (λ_ _ _ _ _=>(gy qq (jd c_count_places (hr.mono ⋯) rfl (j0 (pv 1) (j0 (pv 0) j2))) (qX (v:=V.int 30) rfl g_LONGEST_LANE ⟨_,rfl⟩) (qe _)))) j2)))))),?_⟩
  walk_at "r"
  refine ⟨_,_,rfl,.inl (SqL.of hw),?_⟩
  walk_at "r"
  refine qS (λh1=>?_) (λh1=>?_)
  ·walk_at "r"
   refine ⟨⟨_,SqL.of hw⟩,λacc hacc=>?_⟩
   refine qg (K:=K) (a:=wl) (xs:=out) (acc:=acc) (λj σ H2=>∃x:Option V,σ=[x,some (.ref p)]/\H2 acc=some (.lst (((ws.take j).map λw=>decide (jx rs w<=30)).map V.bl))/\Ext acc H H2) ?_ ?_ ?_ ?_
   ·exact ⟨none,rfl,j7,Ext.put⟩
   ·rintro j σ H2 hj ⟨x,rfl,h3,e3⟩
    exact SqL.of (e3 _ _ hw (j1 hw hacc))
   ·rintro j v σ H2 hv ⟨x,rfl,h3,e3⟩
    obtain ⟨wy,ew,a,rfl,ha⟩:=Paired.get (hws.keep (ji.new e3 hacc)) hv
    have hj:j<ws.length:=(List.getElem?_eq_some_iff.mp ew).1
    obtain ⟨hd,hhd,ewy⟩:=hrd.mem (au ew)
    have hdl:=xf hhd
    have hwlen:wy.length<=100:=by rw [ewy];have:=vF L hd hdl;omega
    walk_at "r"
    refine ⟨p,a,xs,rs,wy,rfl,e3 _ _ hp (j1 hp hacc),hrw.keep (ji.new e3 hacc),h100,ha,by rw [ewy];exact xy L hd hdl,hwlen,λH4 s4=>?_⟩
    walk_at "r"
    refine ⟨_,s4 _ _ h3,by rw [af,af,aW];exact je (),_,rfl,?_,λc o hc n=>by rw [j5 n];exact s4 _ _ (e3 c o hc n)⟩
    rw [j7,qr (λw=>decide (jx rs w<=30)) ws j wy ew,aE]
    rfl
   ·rintro σ H2 ⟨x,rfl,h3,e3⟩
    rw [hwl,bb] at h3
    refine ⟨acc,_,rfl,SqL.of h3,?_⟩
    refine fin _ H2 (λc o hc=>e3 c o hc (j1 hc hacc)) ?_
    rw [decide_eq_true (show ((jm rs).length:Int)<=6 by rw [<- hrl,<- hwl];exact h1),dr,hrd.all]
  ·refine fin _ H (jn.refl H) ?_
   rw [decide_eq_false (show ¬((jm rs).length:Int)<=6 by rw [<- hrl,<- hwl];exact h1)]
   rfl
def Jk (K:ai) (Pt:Addr):Sp:=λvs H Q _=>∃(p:Addr) (xs:List V) (rs:List Rch),vs=[.ref p]/\H p=some (.lst xs)/\jN H xs rs/\(∀r∈rs,r.2.length<=100)/\rs.length<=60/\qm H Pt/\∀H',Ext Pt H H'->qm H' Pt->Q (.bl (xZ rs)) H'
theorem kT:FnScope ["reaches"] ["reaches"] (j8 xU):=by walk_at "s"
theorem gf {f Pt:Addr}{fd:FuncData}{u0:Tok}(nb:Nb2 mg) (g_MOST_REACHES:mg "MOST_REACHES" = some (.int 8 u0)) (c_is_reach:Cal P w K mg base 2 "is_reach" ["number","reach"] Xd) (c_lanes:Cal P w K mg base 5 "lanes" ["reaches"] (vf K Pt)) (c_fits:Cal P w K mg base 2 "fits" ["reaches","ways"] (ZV K)) (F:Fun K "is_valley" "is_valley" xU f fd):FnOk P w K mg base CX0 6 f fd ["reaches"] (Jk K Pt):=by
 refine F.ok kT (λvs H Q E h=>?_) (λcdv A outer s H vs Q E hr h=>?_)
 ·obtain ⟨p,xs,rs,rfl,_⟩:=h
  rfl
 ·obtain ⟨p,xs,rs,rfl,hp,hrw,h100,h60,hT,k⟩:=h
  have hlen:=hrw.length
  have fin:∀(b:Bool) (H':Hp),Ext Pt H H'->qm H' Pt->b=xZ rs->Q (.bl b) H':=λb H' x t e=>by rw [e];exact k H' x t
  refine ⟨_,(j4 (qj (qT (x5 qq qq j6 (jg (jf K) rfl nb.b_len aT (j0 (pv 0) j2)) (qX (v:=V.int 8) rfl g_MOST_REACHES ⟨_,rfl⟩))) (j9 (jj kD)) jD)
   (j4 (qj (qT (yN (jg (yf K rfl) rfl nb.b_all oj (j0 (jX (osc:=(j8 xU)) (ON:=["reaches"]) (N:=["number","reach"]) (own:=2) (caps:=[]) ⟨rfl,∅,∅,∅,rfl,∅⟩ rfl rfl rfl (Xh K rfl nb.b_enumerate (j0 (pv 0) j2)) (λ_ _ _ _ _=>(qI (n:=2) K rfl (jr (jc (i:=0) (show bj (["number","reach"]:List Str) by decide +kernel) rfl (aS rfl)) (jr (jc (i:=1) (show bj (["number","reach"]:List Str) by decide +kernel) rfl (aS rfl)) qN)))) (λ_ _ _ _ _=>jF) (λ_ _ _ _ _=>(jd c_is_reach (hr.mono ⋯) rfl (j0 (pv 0) (j0 (pv 1) j2))))) j2)))) (j9 (jj kD)) jD)
   (j9 (jj (jd c_fits (hr.mono ⋯) rfl (j0 (pv 0) (j0 (jd c_lanes (hr.mono ⋯) rfl (j0 (pv 0) j2)) j2))))))),?_⟩
  walk_at "r"
  refine ⟨_,_,rfl,.inl (SqL.of hp),?_⟩
  walk_at "r"
  have no:¬(1<=(xs.length:Int)/\(xs.length:Int)<=8)->Q (.bl false) H:=λz=>fin _ H Ext.refl hT (by unfold xZ;rw [decide_eq_false (by rw [<- hlen];exact z)];rfl)
  refine qS (λh1=>?_) (λh1=>?_)
  ·walk_at "r"
   refine zy (λh2=>?_) (λh2=>?_)
   ·walk_at "r"
    exact no λz=>h2 z.2
   ·have h18:decide (1<=(rs.length:Int)/\(rs.length:Int)<=8)=true:=decide_eq_true (by rw [<- hlen];exact ⟨h1,h2⟩)
    walk_at "r"
    refine ⟨⟨_,SqL.of hp⟩,λacc hacc=>?_⟩
    refine XM (K:=K) (a:=p) (xs:=xs) (acc:=acc) (λj σ H2=>∃x y:Option V,σ=[x,y]/\H2 acc=some (.lst ((((aO j)).map λi=>okR i (rs.getD i (-1,[]))).map V.bl))/\Ext acc H H2) ?_ ?_ ?_ ?_
    ·exact ⟨none,none,rfl,j7,Ext.put⟩
    ·rintro j σ H2 hj ⟨x,y,rfl,h3,e3⟩
     exact SqL.of (e3 _ _ hp (j1 hp hacc))
    ·rintro j v σ H2 t hv ⟨x,y,rfl,h3,e3⟩ ht
     have hacct:acc≠t:=λz=>by rw [z] at h3;rw [h3] at ht;cases ht
     obtain ⟨r,hr,hrow⟩:=(hrw.keep (ji.new e3 hacc)).get hv
     have hj:j<rs.length:=(List.getElem?_eq_some_iff.mp hr).1
     walk_at "r"
     refine ⟨t,_,rfl,SqT.of j7,rfl,?_⟩
     refine ⟨_,_,rfl,_,_,rfl,rfl,?_⟩
     walk_at "r"
     refine ⟨j,v,r,rfl,hrow.keep (ji.same (jn.new ht)),h100 r (au hr),λH4 s4=>?_⟩
     refine ⟨_,s4 _ _ ((jn.new ht) _ _ h3),by rw [af,af,bL];exact je (),_,_,rfl,?_,λc o hc n=>by rw [j5 n];exact s4 _ _ ((jn.new ht) _ _ (e3 c o hc n))⟩
     rw [j7,cR,aE,aE]
     simp only [aH,dG]
     rw [ak,hr]
     rfl
    ·rintro σ H2 ⟨x,y,rfl,h3,e3⟩
     rw [hlen] at h3
     have sm:jn H H2:=λc o hc=>e3 c o hc (j1 hc hacc)
     refine ⟨acc,_,rfl,SqL.of h3,?_⟩
     walk_at "r"
     have eok:(((aO rs.length).map λi=>okR i (rs.getD i (-1,[]))).all λb=>b)=vQ rs:=by rw [eP];rfl
     rw [eok]
     cases hok:vQ rs with
     | false =>
      refine wL ?_
      walk_at "r"
      exact fin _ H2 (Ext.of_same sm) (hT.same sm) (by unfold xZ;rw [hok,h18];rfl)
     | true =>
      refine VD ?_
      have L:=jV hok
      walk_at "r"
      refine ⟨p,xs,rs,rfl,sm _ _ hp,hrw.keep (ji.same sm),L,h60,hT.same sm,λl H3 out ws hl hl3 w3 r3 X3 T3=>?_⟩
      obtain ⟨ps,hPt⟩:=(hT.same sm).ne
      have hp3:=X3 _ _ (sm _ _ hp) (jh (sm _ _ hp) hPt (by walk_at "z"))
      refine ⟨p,l,xs,out,rs,ws,rfl,hp3,hrw.keep ((ji.same sm).trans (ji.tbl X3 hPt)),h100,hl3,w3,r3,L,h60,λH4 s4=>?_⟩
      exact fin _ H4 (((Ext.of_same sm).trans X3).trans (Ext.of_same s4)) (T3.same s4) (by unfold xZ;rw [hok,h18];rfl)
  ·refine ⟨_,rfl,wL ?_⟩
   walk_at "r"
   exact no λz=>h1 z.1
theorem vp:FnScope ["_law_number","_law_turn","_law_one"] ["_law_number","_law_turn"] (j8 zT):=by walk_at "s"
theorem ZX {f:Addr}{fd:FuncData}(F:Fun K "_law_mixed" "_law_mixed" zT f fd):FnOk P w K mg base CX0 1 f fd ["_law_number","_law_turn"] QP:=by
 refine F.ok vp (λvs H Q E h=>?_) (λcdv A outer s H vs Q E hr h=>?_)
 ·obtain ⟨a,b,rfl,_⟩:=h
  rfl
 ·obtain ⟨a,b,rfl,k⟩:=h
  refine ⟨_,(j4 (ju 2 vp.nd (jo xn (jo jJ (jo jJ (jo ub (pv 0) j6) (jo ub (pv 1) j6)) j6) j6))
   (j9 (jj (jo ve (jo xn (jo jJ (jo jJ (jo ub (pv 2) (jo jJ (jo xn (pv 2) j6) j6)) (jo ub (pv 1) j6)) (jo xn (jo ve (pv 0) j6) j6)) j6) j6)))),?_⟩
  walk_at "r"
  exact k _
theorem zU:FnScope ["_law_box_here","_law_size","_law_left","_law_cell"] ["_law_box_here","_law_size"] (j8 yS):=by walk_at "s"
theorem Yz {f:Addr}{fd:FuncData}(nb:Nb mg) (c_law_mixed:Cal P w K mg base 1 "_law_mixed" ["_law_number","_law_turn"] QP) (F:Fun K "_law_take" "_law_take" yS f fd):FnOk P w K mg base CX0 2 f fd ["_law_box_here","_law_size"] xb:=by
 refine F.ok zU (λvs H Q E h=>?_) (λcdv A outer s H vs Q E hr h=>?_)
 ·obtain ⟨L,b,n,rfl,_⟩:=h
  rfl
 ·obtain ⟨L,b,n,rfl,B,⟨hn,hn2⟩,k⟩:=h
  obtain ⟨ns,a,r,c,d,hb,hL,hS,ha⟩:=B
  refine ⟨_,(j4 (xR (jo jJ (jp (jb K) (pv 0) j6 (λ_ _=>rfl)) j6) (wH (pv 0) j6 y9))
   (j4 (qj (jI UR (jp (jb K) (pv 0) j6 (λ_ _=>rfl)) j6 (qe _)) (j4 (ju 2 zU.nd (jp (jb K) (pv 0) j6 (λ_ _=>rfl)))
   (j4 (xR (jo ve (pv 2) (pv 1)) (wH (pv 0) j6 y9))
   (j9 (jj (jo xn (pv 2) (pv 1)))))) jD)
   (j4 (qj (jI Jt (jp (jb K) (pv 0) j6 (λ_ _=>rfl)) (jg (jf K) rfl nb.b_len aT (j0 (jp (jb K) (pv 0) j6 (λ_ _=>rfl)) j2)) (qe _)) (j9 (jj (jo xn (jd c_law_mixed (hr.mono ⋯) rfl (j0 (jp (jb K) (pv 0) j6 (λ_ _=>rfl)) (j0 (jp (jb K) (pv 0) j6 (λ_ _=>rfl)) j2))) (pv 1)))) jD)
   (j4 (ju 3 zU.nd (jp (jb K) (jp (jb K) (pv 0) j6 (λ_ _=>rfl)) (jp (jb K) (pv 0) j6 (λ_ _=>rfl)) (λ_ _=>rfl)))
   (j4 (xR (jo jJ (jp (jb K) (pv 0) j6 (λ_ _=>rfl)) j6) (wH (pv 0) j6 y9))
   (j4 (qj (jI yw (pv 3) (jo gC j6 j6) (qe _)) (j9 (jj (jo xn (jd c_law_mixed (hr.mono ⋯) rfl (j0 (pv 3) (j0 (jp (jb K) (pv 0) j6 (λ_ _=>rfl)) j2))) (pv 1)))) jD)
   (j4 (xR (jo ve (pv 3) (pv 1)) (wH (pv 0) j6 y9))
   (j9 (jj (jo xn (pv 3) (pv 1))))))))))),?_⟩
  walk_at "r"
  refine qS (λh1=>?_) (λh1=>?_)
  ·walk_at "r"
   exact k _ _ (cS _ ()) (cp _ hn) ⟨ns,_,_,_,_,j7,hL,(Ext.put.trans Ext.put) _ _ hS hL,ha⟩ (Ext.put.trans Ext.put)
  ·have hS1:∀o,SqL K (upd H b o) L (ns.map V.int):=λo=>SqL.of (Ext.put _ _ hS hL)
   walk_at "r"
   refine ⟨_,_,rfl,.inl (hS1 _),?_⟩
   walk_at "r"
   refine qS (λh2=>?_) (λh2=>?_)
   ·walk_at "r"
    refine ⟨_,_,rfl,λz=>?_⟩
    walk_at "r"
    exact k _ _ (cS _ ()) (cp _ hn) ⟨ns,_,_,_,_,j7,hL,Ext.put _ _ hS hL,ha⟩ Ext.put
   ·have h3:a<ns.length:=by
     rw [af] at h2
     omega
    obtain ⟨z,hz⟩:=uR ha h3
    walk_at "r"
    refine ⟨_,_,_,_,rfl,rfl,hS1 _,hz,?_⟩
    walk_at "r"
    refine qS (λh4=>?_) (λh4=>?_)
    ·walk_at "r"
     refine ⟨_,_,rfl,λz=>?_⟩
     walk_at "r"
     exact k _ _ (cS _ ()) (cp _ hn) ⟨ns,_,_,_,_,j7,hL,(Ext.put.trans Ext.put) _ _ hS hL,()⟩ (Ext.put.trans Ext.put)
    ·walk_at "r"
     exact k _ _ (cS _ ()) (cp _ hn) ⟨ns,_,_,_,_,j7,hL,((Ext.put.trans Ext.put).trans Ext.put) _ _ hS hL,()⟩ ((Ext.put.trans Ext.put).trans Ext.put)
theorem zA:FnScope ["_law_script","_law_seed","_law_cell"] ["_law_script"] (j8 vZ):=by walk_at "s"
theorem U5 {f:Addr}{fd:FuncData}(nb:Nb mg) (F:Fun K "_law_box" "_law_box" vZ f fd):FnOk P w K mg base CX0 1 f fd ["_law_script"] (ZR K):=by
 refine F.ok zA (λvs H Q E h=>?_) (λcdv A outer s H vs Q E hr h=>?_)
 ·obtain ⟨a,ns,rfl,_⟩:=h
  rfl
 ·obtain ⟨a,ns,rfl,hS,k⟩:=h
  refine ⟨_,(j4 (ju 1 zA.nd j6)
   (j4 (xh bt rfl (jW K (pv 0)) (jc (i:=2) zA.nd rfl (aS rfl)) (j9 (ju 1 zA.nd (jo xn (jo jJ (jo jJ (jo ub (pv 1) j6) (jo xn (pv 2) j6)) j6) j6))))
   (j9 (jj (jM (j0 (jT (qp K) rfl nb.b_list bR (j0 (pv 0) j2)) (j0 j6 (j0 j6 (j0 j6 (j0 (pv 1) j2)))))))))),?_⟩
  walk_at "r"
  refine ⟨⟨_,hS⟩,vg (K:=K) (a:=a) (xs:=ns.map V.int) (λi σ H2=>∃(seed:Int) (v:Option V),σ=[some (.ref a),some (.int seed),v]/\H2=H) ⟨_,_,rfl,rfl⟩ (λi σ H2 _ ⟨_,_,_,e⟩=>by rw [e];exact hS) ?_ ?_⟩
  ·rintro i y σ H2 hi ⟨seed,v,rfl,rfl⟩
   obtain ⟨z,rfl⟩:=zY hi
   walk_at "r"
   exact ⟨_,_,rfl,rfl⟩
  ·rintro σ H2 ⟨seed,v,rfl,rfl⟩
   walk_at "r"
   refine ⟨a,_,rfl,.inl hS,λL H3 hL hL3 s3=>?_⟩
   walk_at "r"
   refine ⟨by show 5<=sizeLine;decide,λb H4 hb hb4 s4=>?_⟩
   exact k L b _ (s3.free hb) ⟨ns,_,_,_,_,hb4,j1 hL3 hb,s4 _ _ hL3,cV _⟩ (s3.trans s4)
def good (t:T3):Bool:=decide (0<=t.1/\t.1<=100/\0<=t.2.1/\t.2.1<=9/\0<=t.2.2/\t.2.2<=9)
def gr (ts:List T3):Bool:=decide (1<=(ts.length:Int)/\(ts.length:Int)<=12) && ts.all good
theorem Vl {ts:List T3}(h:¬(1<=(ts.length:Int)/\(ts.length:Int)<=12)):gr ts=false:=by unfold gr;rw [decide_eq_false h];rfl
theorem VL {ts:List T3}(h:1<=(ts.length:Int)/\(ts.length:Int)<=12):gr ts=(ts.map good).all λb=>b:=by
 unfold gr
 rw [decide_eq_true h,dr,eP]
 rfl
def JW:Sp:=λvs H Q _=>∃(p:Addr) (t:T3),vs=[.ref p]/\H p=some (zj t)/\Q (.bl (good t)) H
local macro_rules | `(tactic| walk_at "forks")=>`(tactic| (walk_at "r";first | (refine qS (fun _=>?_) (fun _=>?_) <;> walk_at "forks") | skip))
theorem xu:FnScope ["row","line","snow","sun"] ["row"] (j8 zH):=by walk_at "s"
theorem wQ {f:Addr}{fd:FuncData}{u0 u1:Tok}(g_HIGHEST_LINE:mg "HIGHEST_LINE" = some (.int 100 u0)) (g_MOST_HANDS:mg "MOST_HANDS" = some (.int 9 u1)) (F:Fun K "is_weather" "is_weather" zH f fd):FnOk P w K mg base CX0 1 f fd ["row"] JW:=by
 refine F.ok xu (λvs H Q E h=>?_) (λcdv A outer s H vs Q E hr h=>?_)
 ·obtain ⟨p,t,rfl,_⟩:=h
  rfl
 ·obtain ⟨p,⟨l,sn,u⟩,rfl,hp,k⟩:=h
  refine ⟨_,(j4 (xR (pv 0) (qI (n:=3) K rfl (jr (jc (i:=1) xu.nd rfl (aS rfl)) (jr (jc (i:=2) xu.nd rfl (aS rfl)) (jr (jc (i:=3) xu.nd rfl (aS rfl)) qN)))))
   (j9 (jj (gK (zx qq qq j6 (pv 1) (qX (v:=V.int 100) rfl g_HIGHEST_LINE ⟨_,rfl⟩)) (gK (zx qq qq j6 (pv 2) (qX (v:=V.int 9) rfl g_MOST_HANDS ⟨_,rfl⟩)) (QG (zx qq qq j6 (pv 3) (qX (v:=V.int 9) rfl g_MOST_HANDS ⟨_,rfl⟩)))))))),?_⟩
  walk_at "r"
  refine ⟨p,_,rfl,SqT.of hp,rfl,?_⟩
  refine ⟨_,_,rfl,_,_,rfl,_,_,rfl,rfl,?_⟩
  walk_at "forks"
  all_goals
   refine Eq.mp (congrArg (λz=>Q (V.bl z) H) ?_) k
   unfold good
   dsimp only at *
   first | (apply decide_eq_false;omega) | (apply decide_eq_decide.mpr;omega)
theorem gR:FnScope ["rows"] ["rows"] (j8 zM):=by walk_at "s"
def QX (K:ai):Sp:=λvs H Q _=>∃(p:Addr) (xs:List V) (ts:List T3),vs=[.ref p]/\H p=some (.lst xs)/\qh H xs ts/\ts.length<=1000/\∀H',jn H H'->Q (.bl (gr ts)) H'
theorem Jp {f:Addr}{fd:FuncData}{u0:Tok}(nb:Nb mg) (g_MOST_ROWS:mg "MOST_ROWS" = some (.int 12 u0)) (c_is_weather:Cal P w K mg base 1 "is_weather" ["row"] JW) (F:Fun K "is_round" "is_round" zM f fd):FnOk P w K mg base CX0 2 f fd ["rows"] (QX K):=by
 refine F.ok gR (λvs H Q E h=>?_) (λcdv A outer s H vs Q E hr h=>?_)
 ·obtain ⟨p,xs,ts,rfl,_⟩:=h
  rfl
 ·obtain ⟨p,xs,ts,rfl,hp,hr3,h1000,k⟩:=h
  have hlen:=hr3.length
  refine ⟨_,(j9 (jj (gK (zx qq qq j6 (jg (jf K) rfl nb.b_len aT (j0 (pv 0) j2)) (qX (v:=V.int 12) rfl g_MOST_ROWS ⟨_,rfl⟩)) (QG (jg (yf K rfl) rfl nb.b_all oj (j0 (jX (osc:=(j8 zM)) (ON:=["rows"]) (N:=["row"]) (own:=1) (caps:=[]) ⟨rfl,∅,∅,∅,rfl,∅⟩ rfl rfl rfl (jW K (pv 0)) (λ_ _ _ _ _=>(jc (i:=0) (show bj (["row"]:List Str) by decide +kernel) rfl (aS rfl))) (λ_ _ _ _ _=>jF) (λ_ _ _ _ _=>(jd c_is_weather (hr.mono ⋯) rfl (j0 (pv 0) j2)))) j2)))))),?_⟩
  walk_at "r"
  refine ⟨_,_,rfl,.inl (SqL.of hp),?_⟩
  walk_at "r"
  refine qS (λh1=>?_) (λh1=>?_)
  ·walk_at "r"
   refine qS (λh2=>?_) (λh2=>?_)
   ·walk_at "r"
    refine ⟨⟨_,SqL.of hp⟩,λacc hacc=>?_⟩
    refine qg (K:=K) (a:=p) (xs:=xs) (acc:=acc) (λi σ H2=>∃x:Option V,σ=[x]/\H2 acc=some (.lst (((ts.take i).map good).map V.bl))/\Ext acc H H2) ?_ ?_ ?_ ?_
    ·exact ⟨none,rfl,j7,Ext.put⟩
    ·rintro i σ H2 hi ⟨x,rfl,h3,e3⟩
     exact SqL.of (e3 _ _ hp (j1 hp hacc))
    ·rintro i v σ H2 hv ⟨x,rfl,h3,e3⟩
     obtain ⟨t,ht,q,rfl,hq⟩:=hr3.get hv
     have hi:i<ts.length:=(List.getElem?_eq_some_iff.mp ht).1
     walk_at "r"
     refine ⟨q,t,rfl,e3 _ _ hq (j1 hq hacc),?_⟩
     refine ⟨_,h3,by rw [af,af,aW];exact je (),_,rfl,?_,e3.trans Ext.put⟩
     rw [j7,qr good ts i t ht,aE]
     rfl
    ·rintro σ H2 ⟨x,rfl,h3,e3⟩
     rw [hlen,bb] at h3
     refine ⟨acc,ts.map good,rfl,SqL.of h3,?_⟩
     have k2:=k H2 λc o hc=>e3 c o hc (j1 hc hacc)
     rw [VL (by rw [hlen] at h1 h2;exact ⟨h1,h2⟩)] at k2
     exact k2
   ·walk_at "r"
    have k2:=k H (jn.refl H)
    rw [Vl (by rw [hlen] at h2;intro z;exact h2 z.2)] at k2
    exact k2
  ·walk_at "r"
   have k2:=k H (jn.refl H)
   rw [Vl (by rw [hlen] at h1;intro z;exact h1 z.1)] at k2
   exact k2
def vY:Sp:=λvs H Q _=>∃(L b:Addr),vs=[.ref b]/\jR L H b/\∀(p:Addr) (H':Hp) (t:T3),jR L H' b->Ext b H H'->H' p=some (zj t)->good t=true->Q (.ref p) H'
theorem zX:FnScope ["_law_box_here","_law_line"] ["_law_box_here"] (j8 ze):=by walk_at "s"
theorem five {v3 v1 v2:Int}(a:0<=v3) (b:v3<5) (c:0<=v1) (d:v1<20) (e:0<=v2) (g:v2<101):∃ln,atI [V.int (40+v1),V.int v2,V.int 0,V.int 100,V.int 50] v3=some (V.int ln)/\0<=ln/\ln<=100:=by
 have h:v3=0\/v3=1\/v3=2\/v3=3\/v3=4:=()
 rcases h with rfl | rfl | rfl | rfl | rfl
 ·exact ⟨40+v1,rfl,(),()⟩
 ·exact ⟨v2,rfl,(),()⟩
 ·exact ⟨0,rfl,(),()⟩
 ·exact ⟨100,rfl,(),()⟩
 ·exact ⟨50,rfl,(),()⟩
theorem Qx {f:Addr}{fd:FuncData}(c_law_take:Cal P w K mg base 2 "_law_take" ["_law_box_here","_law_size"] xb) (F:Fun K "_law_weather" "_law_weather" ze f fd):FnOk P w K mg base CX0 3 f fd ["_law_box_here"] vY:=by
 refine F.ok zX (λvs H Q E h=>?_) (λcdv A outer s H vs Q E hr h=>?_)
 ·obtain ⟨L,b,rfl,_⟩:=h
  rfl
 ·obtain ⟨L,b,rfl,B,k⟩:=h
  refine ⟨_,(j4 (ju 1 zX.nd (jp (jb K) (jM (j0 (jo jJ j6 (jd c_law_take (hr.mono ⋯) rfl (j0 (pv 0) (j0 j6 j2)))) (j0 (jd c_law_take (hr.mono ⋯) rfl (j0 (pv 0) (j0 j6 j2))) (j0 j6 (j0 j6 (j0 j6 j2)))))) (jd c_law_take (hr.mono ⋯) rfl (j0 (pv 0) (j0 j6 j2))) (λ_ _=>rfl)))
   (j9 (jj (qZ (j0 (pv 1) (j0 (jd c_law_take (hr.mono ⋯) rfl (j0 (pv 0) (j0 j6 j2))) (j0 (jd c_law_take (hr.mono ⋯) rfl (j0 (pv 0) (j0 j6 j2))) j2))))))),?_⟩
  walk_at "r"
  refine ⟨L,b,_,rfl,B,⟨⋯,⋯⟩,λv1 H1 p1 q1 B1 X1=>?_⟩
  walk_at "r"
  refine ⟨L,b,_,rfl,B1,⟨⋯,⋯⟩,λv2 H2 p2 q2 B2 X2=>?_⟩
  refine ⟨by show 5<=sizeLine;decide,λq Hq hq hqq sq=>?_⟩
  walk_at "r"
  refine ⟨L,b,_,rfl,B2.same sq,⟨⋯,⋯⟩,λv3 H3 p3 q3 B3 X3=>?_⟩
  have hq3:=X3 _ _ hqq (B2.ne hq)
  obtain ⟨ln,hln,l0,l1⟩:=five p3 q3 p1 q1 p2 q2
  refine ⟨_,_,_,_,rfl,rfl,SqL.of hq3,hln,?_⟩
  walk_at "r"
  refine ⟨L,b,_,rfl,B3,⟨⋯,⋯⟩,λv4 H4 p4 q4 B4 X4=>?_⟩
  walk_at "r"
  refine ⟨L,b,_,rfl,B4,⟨⋯,⋯⟩,λv5 H5 p5 q5 B5 X5=>?_⟩
  refine ⟨by show 3<=sizeLine;decide,λp Hp hp hpp sp=>?_⟩
  exact k p _ (ln,v4,v5) (B5.same sp) ((((((X1.trans X2).trans (Ext.of_same sq)).trans X3).trans X4).trans X5).trans (Ext.of_same sp)) hpp (decide_eq_true ⟨l0,l1,p4,(show v4<=9 by omega),p5,(show v5<=9 by omega)⟩)
def uq:Sp:=λvs H Q _=>∃(L b:Addr),vs=[.ref b]/\jR L H b/\∀(p:Addr) (H':Hp) (xs:List V) (ts:List T3),jR L H' b->Ext b H H'->H p=none->H' p=some (.lst xs)->qh H' xs ts->(1<=ts.length/\ts.length<=12)->ts.all good=true->Q (.ref p) H'
theorem hZ:FnScope ["_law_box_here"] ["_law_box_here"] (j8 zd):=by walk_at "s"
theorem Wc {v:Int}(a:0<=v) (b:v<3):∃n,atI [V.int 1,V.int 3,V.int 12] v=some (V.int n)/\0<n/\n<=12:=by
 have h:v=0\/v=1\/v=2:=()
 rcases h with rfl | rfl | rfl
 ·exact ⟨1,rfl,(),()⟩
 ·exact ⟨3,rfl,(),()⟩
 ·exact ⟨12,rfl,(),()⟩
theorem Yj {f:Addr}{fd:FuncData}(nb:Nb mg) (c_law_take:Cal P w K mg base 2 "_law_take" ["_law_box_here","_law_size"] xb) (c_law_weather:Cal P w K mg base 3 "_law_weather" ["_law_box_here"] vY) (F:Fun K "_law_round" "_law_round" zd f fd):FnOk P w K mg base CX0 4 f fd ["_law_box_here"] uq:=by
 refine F.ok hZ (λvs H Q E h=>?_) (λcdv A outer s H vs Q E hr h=>?_)
 ·obtain ⟨L,b,rfl,_⟩:=h
  rfl
 ·obtain ⟨L,b,rfl,B,k⟩:=h
  refine ⟨_,(j9 (jj (jX (osc:=(j8 zd)) (ON:=["_law_box_here"]) (N:=["_law_turn","_law_box_here"]) (own:=1) (caps:=[0]) ⟨rfl,∅,∅,∅,rfl,∅⟩ rfl rfl rfl (qw rfl nb.b_range (j0 (jo jJ j6 (jd c_law_take (hr.mono ⋯) rfl (j0 (pv 0) (j0 (jp (jb K) (jM (j0 j6 (j0 j6 (j0 j6 j2)))) (jd c_law_take (hr.mono ⋯) rfl (j0 (pv 0) (j0 j6 j2))) (λ_ _=>rfl)) j2)))) j2)) (λ_ _ _ _ _=>(jc (i:=0) (show bj (["_law_turn","_law_box_here"]:List Str) by decide +kernel) rfl (aS rfl))) (λ_ _ _ _ _=>jF) (λ_ _ _ _ _=>(jd c_law_weather (hr.mono ⋯) rfl (j0 (pv 1) j2)))))),?_⟩
  walk_at "r"
  refine ⟨by show 3<=sizeLine;decide,λq Hq hq hqq sq=>?_⟩
  walk_at "r"
  refine ⟨L,b,_,rfl,B.same sq,⟨⋯,⋯⟩,λv1 H1 p1 q1 B1 X1=>?_⟩
  obtain ⟨n,hn,n0,n1⟩:=Wc p1 q1
  refine ⟨_,_,_,_,rfl,rfl,SqL.of (X1 _ _ hqq (B.ne hq)),hn,?_⟩
  refine ⟨L,b,_,rfl,B1,⟨n0,()⟩,λv2 H2 p2 q2 B2 X2=>?_⟩
  refine ⟨_,_,rfl,rfl,?_⟩
  refine ⟨1+v2,rfl,(),(),λacc hacc=>?_⟩
  have nb1:=B2.ne hacc
  have nb2:=B2.neL hacc
  have hfree:∀a,H2 a=none->a≠b->H a=none:=λa n nb=>jn.free sq (X1.free (X2.free n nb) nb)
  refine xq (lo:=0) (n:=(1+v2).toNat) (acc:=acc) (λi σ H3=>∃(x:Option V) (xs:List V) (ts:List T3),σ=[x,some (.ref b)]/\jR L H3 b/\(∀c o,H2 c=some o->c≠b->H3 c=some o)/\H3 acc=some (.lst xs)/\qh H3 xs ts/\ts.length=i/\ts.all good=true) ?_ ?_ ?_
  ·exact ⟨none,[],[],rfl,B2.put nb1 nb2,λc o hc n=>Ext.put _ _ hc (j1 hc hacc),j7,.nil,rfl,rfl⟩
  ·rintro i σ H3 hi ⟨x,xs,ts,rfl,B3,ks,h3,r3,hl,hg⟩
   walk_at "r"
   refine ⟨L,b,rfl,B3,λp H4 t B4 X4 hp ht=>?_⟩
   have h4:=X4 _ _ h3 nb1
   have r4:qh H4 xs ts:=r3.imp λp t e=>X4 _ _ e (B3.ne_tup e)
   have hlen:=r4.length
   refine ⟨xs,h4,je (),_,xs++[.ref p],ts++[t],rfl,B4.put nb1 nb2,λc o hc n=>Ext.put _ _ (X4 _ _ (ks c o hc n) n) (j1 hc hacc),j7,?_,by rw [av,hl];rfl,by rw [List.all_append,hg];simp [ht]⟩
   exact qh.imp (r4.snoc ⟨p,rfl,hp⟩) λq t e=>Ext.put _ _ e (jh e h4 (by walk_at "z"))
  ·rintro σ H3 ⟨x,xs,ts,rfl,B3,ks,h3,r3,hl,hg⟩
   exact k acc H3 xs ts B3 (λc o hc n=>ks c o (X2 _ _ (X1 _ _ (sq _ _ hc) n) n) n) (hfree acc hacc nb1) h3 r3 () hg
def yu:Sp:=λvs H Q _=>∃(L b:Addr) (tp sz:Int),vs=[.ref b,.int tp,.int sz]/\jR L H b/\tp<=99/\0<=sz/\sz<=100/\∀p H' (hs:List Int),jR L H' b->Ext b H H'->H p=none->H' p=some (.lst (hs.map V.int))->(hs.length:Int)=sz->(∀x∈hs,0<=x/\x<=99)->Q (.ref p) H'
theorem qR:FnScope ["_law_box_here","_law_top","_law_size","_law_pick","_law_step"] ["_law_box_here","_law_top","_law_size"] (j8 qd):=by walk_at "s"
theorem uv {f:Addr}{fd:FuncData}(nb:Nb2 mg) (c_law_take:Cal P w K mg base 2 "_law_take" ["_law_box_here","_law_size"] xb) (F:Fun K "_law_ground_drawn" "_law_ground_drawn" qd f fd):FnOk P w K mg base CX0 3 f fd ["_law_box_here","_law_top","_law_size"] yu:=by
 refine F.ok qR (λvs H Q E h=>?_) (λcdv A outer s H vs Q E hr h=>?_)
 ·obtain ⟨L,b,tp,sz,rfl,_⟩:=h
  rfl
 ·obtain ⟨L,b,tp,sz,rfl,B,htp,h0,h1,k⟩:=h
  refine ⟨_,(j4 (ju 3 qR.nd (jd c_law_take (hr.mono ⋯) rfl (j0 (pv 0) (j0 j6 j2))))
   (j4 (qj (jI wg (pv 3) j6 (qe _)) (j9 (jj (jX (osc:=(j8 qd)) (ON:=["_law_box_here","_law_top","_law_size","_law_pick","_law_step"]) (N:=["_law_turn","_law_box_here"]) (own:=1) (caps:=[0]) ⟨rfl,∅,∅,∅,rfl,∅⟩ rfl rfl rfl (qw rfl nb.b_range (j0 (pv 2) j2)) (λ_ _ _ _ _=>(jc (i:=0) (show bj (["_law_turn","_law_box_here"]:List Str) by decide +kernel) rfl (aS rfl))) (λ_ _ _ _ _=>jF) (λ_ _ _ _ _=>(jd c_law_take (hr.mono ⋯) rfl (j0 (pv 1) (j0 j6 j2))))))) jD)
   (j4 (uQ (i:=4) qR.nd rfl (lq rfl) (jo jJ j6 (jd c_law_take (hr.mono ⋯) rfl (j0 (pv 0) (j0 j6 j2)))))
   (j9 (jj (jX (osc:=(j8 qd)) (ON:=["_law_box_here","_law_top","_law_size","_law_pick","_law_step"]) (N:=["_law_place","_law_top","_law_step"]) (own:=1) (caps:=[1,4]) ⟨rfl,∅,∅,∅,rfl,∅⟩ rfl rfl rfl (qw rfl nb.b_range (j0 (pv 2) j2)) (λ_ _ _ _ _=>(jc (i:=0) (show bj (["_law_place","_law_top","_law_step"]:List Str) by decide +kernel) rfl (aS rfl))) (λ_ _ _ _ _=>jF) (λ_ _ _ _ _=>(jg (yg rfl) rfl nb.b_max om (j0 j6 (j0 (jo xk (pv 1) (jo ub (pv 2) (pv 0))) j2)))))))))),?_⟩
  walk_at "r"
  refine ⟨L,b,_,rfl,B,⟨⋯,⋯⟩,λv1 H1 p1 q1 B1 X1=>?_⟩
  walk_at "r"
  refine qS (λ_=>?_) (λ_=>?_)
  ·walk_at "r"
   refine ⟨(),(),λacc hacc=>?_⟩
   have na1:=B1.ne hacc
   have na2:=B1.neL hacc
   refine xq (lo:=0) (n:=sz.toNat) (acc:=acc) (λi σ H2=>∃(x:Option V) (hs:List Int),σ=[x,some (.ref b)]/\jR L H2 b/\H2 acc=some (.lst (hs.map V.int))/\hs.length=i/\(∀x∈hs,0<=x/\x<=99)/\Ext b H1 H2) ?_ ?_ ?_
   ·exact ⟨none,[],rfl,B1.put na1 na2,j7,rfl,(by intro x hx;cases hx),Ext.new hacc⟩
   ·rintro i σ H2 hi ⟨x,hs,rfl,B2,h2,hl,hb,e2⟩
    walk_at "r"
    refine ⟨L,b,_,rfl,B2,⟨⋯,⋯⟩,λv H3 p3 q3 B3 X3=>?_⟩
    have h3:=X3 _ _ h2 na1
    refine ⟨_,h3,by rw [af];exact je (),_,hs++[v],rfl,B3.put na1 na2,by rw [j7,aE];rfl,by rw [av,hl];rfl,λx hx=>?_,λc o hc n=>?_⟩
    ·rcases List.mem_append.mp hx with hx | hx
     ·exact hb x hx
     ·have:x=v:=by simpa using hx
      omega
    ·rw [j5 (j1 hc hacc)]
     exact X3 _ _ (e2 c o hc n) n
   ·rintro σ H2 ⟨x,hs,rfl,B2,h2,hl,hb,e2⟩
    exact k acc H2 hs B2 (X1.trans e2) (X1.free hacc na1) h2 () hb
  ·walk_at "r"
   refine ⟨L,b,_,rfl,B1,⟨⋯,⋯⟩,λv2 H2 p2 q2 B2 X2=>?_⟩
   walk_at "r"
   refine ⟨(),(),λacc hacc=>?_⟩
   have na1:=B2.ne hacc
   have na2:=B2.neL hacc
   refine xq (lo:=0) (n:=sz.toNat) (acc:=acc) (λi σ H3=>∃(x:Option V) (hs:List Int),σ=[x,some (.int tp),some (.int (1+v2))]/\jR L H3 b/\H3 acc=some (.lst (hs.map V.int))/\hs.length=i/\(∀x∈hs,0<=x/\x<=99)/\Ext b H2 H3) ?_ ?_ ?_
   ·exact ⟨none,[],rfl,B2.put na1 na2,j7,rfl,(by intro x hx;cases hx),Ext.new hacc⟩
   ·rintro i σ H3 hi ⟨x,hs,rfl,B3,h3,hl,hb,e3⟩
    walk_at "r"
    have hm:(0:Int)<=(1+v2)*(0+(i:Int)):=Int.mul_nonneg () ()
    refine ⟨_,_,rfl,?_⟩
    refine ⟨_,h3,by rw [af];exact je (),_,hs++[if tp-(1+v2)*(0+(i:Int)) > 0 then tp-(1+v2)*(0+(i:Int)) else 0],rfl,B3.put na1 na2,by rw [j7,aE];rfl,by rw [av,hl];rfl,λx hx=>?_,λc o hc n=>?_⟩
    ·rcases List.mem_append.mp hx with hx | hx
     ·exact hb x hx
     ·have:x=if tp-(1+v2)*(0+(i:Int)) > 0 then tp-(1+v2)*(0+(i:Int)) else 0:=by simpa using hx
      rw [this]
      split <;> omega
    ·rw [j5 (j1 hc hacc)]
     exact e3 c o hc n
   ·rintro σ H3 ⟨x,hs,rfl,B3,h3,hl,hb,e3⟩
    have hacc1:=X2.free hacc na1
    exact k acc H3 hs B3 ((X1.trans X2).trans e3) (X1.free hacc1 na1) h3 () hb
structure RD (L b tp rw dp:Addr) (H0:Hp):Prop where
 tb:tp≠b
 rb:rw≠b
 db:dp≠b
 tL:tp≠L
 rL:rw≠L
 dL:dp≠L
 tr:tp≠rw
 td:tp≠dp
 rd:rw≠dp
 nt:H0 tp=none
 nr:H0 rw=none
 nd:H0 dp=none
structure RG (L b tp rw dp:Addr) (H0 H:Hp) (ts:List Int) (xs:List V) (rs:List Rch) (ds:List Int):Prop where
 box:jR L H b
 htp:H tp=some (.lst (ts.map V.int))
 hrw:H rw=some (.lst xs)
 hdp:H dp=some (.lst (ds.map V.int))
 rows:jN H xs rs
 ext:Ext b H0 H
section
variable {L b tp rw dp:Addr}{H0 H H':Hp}{ts ds:List Int}{xs:List V}{rs:List Rch}
theorem RG.take (D:RD L b tp rw dp H0) (G:RG L b tp rw dp H0 H ts xs rs ds) (B:jR L H' b) (X:Ext b H H'):RG L b tp rw dp H0 H' ts xs rs ds :=
 ⟨B,X _ _ G.htp D.tb,X _ _ G.hrw D.rb,X _ _ G.hdp D.db,G.rows.keep (by obtain ⟨ns,a,r,c,d,h1,_⟩:=G.box;exact ji.lst X h1),G.ext.trans X⟩
theorem RG.same (G:RG L b tp rw dp H0 H ts xs rs ds) (s:jn H H'):RG L b tp rw dp H0 H' ts xs rs ds :=
 ⟨G.box.same s,s _ _ G.htp,s _ _ G.hrw,s _ _ G.hdp,G.rows.keep (ji.same s),G.ext.trans (Ext.of_same s)⟩
theorem RG.extN {a:Addr}(G:RG L b tp rw dp H0 H ts xs rs ds) (hn:H a=none) (e:Ext a H H'):RG L b tp rw dp H0 H' ts xs rs ds:=G.same λc o h=>e c o h (j1 h hn)
theorem RG.putT (D:RD L b tp rw dp H0) (G:RG L b tp rw dp H0 H ts xs rs ds) (ts':List Int):RG L b tp rw dp H0 (upd H tp (.lst (ts'.map V.int))) ts' xs rs ds :=
 ⟨G.box.put D.tb D.tL,j7,by rw [j5 D.tr.symm];exact G.hrw,by rw [j5 D.td.symm];exact G.hdp,G.rows.keep (ji.lst Ext.put G.htp),λc o h n=>by rw [j5 (j1 h D.nt)];exact G.ext c o h n⟩
theorem RG.putR (D:RD L b tp rw dp H0) (G:RG L b tp rw dp H0 H ts xs rs ds) {v:V}{r:Rch}(q:gH H v r):RG L b tp rw dp H0 (upd H rw (.lst (xs++[v]))) ts (xs++[v]) (rs++[r]) ds :=
 ⟨G.box.put D.rb D.rL,by rw [j5 D.tr];exact G.htp,j7,by rw [j5 D.rd.symm];exact G.hdp,(G.rows.snoc q).keep (ji.lst Ext.put G.hrw),λc o h n=>by rw [j5 (j1 h D.nr)];exact G.ext c o h n⟩
theorem RG.putD (D:RD L b tp rw dp H0) (G:RG L b tp rw dp H0 H ts xs rs ds) (ds':List Int):RG L b tp rw dp H0 (upd H dp (.lst (ds'.map V.int))) ts xs rs ds' :=
 ⟨G.box.put D.db D.dL,by rw [j5 D.td];exact G.htp,by rw [j5 D.rd];exact G.hrw,j7,G.rows.keep (ji.lst Ext.put G.hdp),λc o h n=>by rw [j5 (j1 h D.nd)];exact G.ext c o h n⟩
end
def xp (rs:List Rch):List Int:=(aO rs.length).map λi=>jx rs (qk rs i)
theorem J4 {rs:List Rch}{t:Int}{hs:List Int}(G:Grown rs) (h0:0<=t) (h1:t<rs.length) (hx:okR rs.length (t,hs)=true):xp (rs++[(t,hs)])=xp rs++[jx rs (qk rs t.toNat)+hs.length]:=by
 have Ld:=jV G.ok
 unfold xp
 rw [av,aU,cR,aE]
 congr 1
 ·apply cD
  intro i hi
  have hi':=List.mem_range.mp hi
  rw [yi Ld hi',xz _ (xy Ld i hi')]
 ·show [jx (rs++[(t,hs)]) (qk (rs++[(t,hs)]) rs.length)]=[_]
  rw [G.deep_snoc h0 h1 hx]
theorem Zn {rs:List Rch}{t:Int}(h0:0<=t) (h1:t<rs.length):atI ((xp rs).map V.int) t=some (.int (jx rs (qk rs t.toNat))):=by
 refine qx h0 ?_
 unfold xp
 rw [ar,ar,lM ()]
 rfl
theorem YL {i:Nat}{t sz:Int}{hs:List Int}(hi:0<i) (h0:0<=t) (h1:t<i) (hl:(hs.length:Int)=sz) (hz0:1<=sz) (hz1:sz<=12) (hb:∀x∈hs,0<=x/\x<=99):okR i (t,hs)=true:=by
 unfold okR xo
 rw [if_neg (),decide_eq_true (show 0<=t/\t<(i:Int) from ⟨h0,h1⟩),decide_eq_true (show 1<=(hs.length:Int)/\(hs.length:Int)<=12 by omega),dr,dr,bG]
 intro x hx
 exact decide_eq_true (hb x hx)
def uY:Sp:=λvs H Q _=>∃(L b:Addr),vs=[.ref b]/\jR L H b/\∀p H' xs rs,jR L H' b->Ext b H H'->H p=none->H' p=some (.lst xs)->jN H' xs rs->Grown rs->1<=rs.length->rs.length<=8->Q (.ref p) H'
theorem jB:FnScope ["_law_box_here","_law_tops","_law_sizes","_law_rows","_law_deep","_law_number","_law_to","_law_led","_law_heads","_law_size"] ["_law_box_here"] (j8 qU):=by walk_at "s"
theorem U2 {v:Int}(a:0<=v) (b:v<3):∃n,atI [V.int 1,V.int 3,V.int 8] v=some (V.int n)/\0<n/\n<=8:=by
 have h:v=0\/v=1\/v=2:=()
 rcases h with rfl | rfl | rfl
 ·exact ⟨1,rfl,(),()⟩
 ·exact ⟨3,rfl,(),()⟩
 ·exact ⟨8,rfl,(),()⟩
theorem Qk {f:Addr}{fd:FuncData}(nb:Nb2 mg) (c_law_take:Cal P w K mg base 2 "_law_take" ["_law_box_here","_law_size"] xb) (c_law_ground_drawn:Cal P w K mg base 3 "_law_ground_drawn" ["_law_box_here","_law_top","_law_size"] yu) (F:Fun K "_law_reaches" "_law_reaches" qU f fd):FnOk P w K mg base CX0 4 f fd ["_law_box_here"] uY:=by
 refine F.ok jB (λvs H Q E h=>?_) (λcdv A outer s H vs Q E hr h=>?_)
 ·obtain ⟨L,b,rfl,_⟩:=h
  rfl
 ·obtain ⟨L,b,rfl,B,k⟩:=h
  refine ⟨_,(j4 (ju 1 jB.nd (jM (j0 (jo jJ j6 (jd c_law_take (hr.mono ⋯) rfl (j0 (pv 0) (j0 j6 j2)))) j2)))
   (j4 (ju 2 jB.nd (jM (j0 (jo jJ j6 (jd c_law_take (hr.mono ⋯) rfl (j0 (pv 0) (j0 j6 j2)))) j2)))
   (j4 (ju 3 jB.nd (jM (j0 (qZ (j0 (jo xk j6 j6) (j0 (jT (xQ K) rfl nb.b_tuple cw (j0 (jd c_law_ground_drawn (hr.mono ⋯) rfl (j0 (pv 0) (j0 (jp (jb K) (pv 1) j6 (λ_ _=>rfl)) (j0 (jp (jb K) (pv 2) j6 (λ_ _=>rfl)) j2)))) j2)) j2))) j2)))
   (j4 (ju 4 jB.nd (jM (j0 (jp (jb K) (pv 2) j6 (λ_ _=>rfl)) j2)))
   (j4 (xh bt rfl (XS rfl nb.b_range (j0 j6 (j0 (jo jJ j6 (jd c_law_take (hr.mono ⋯) rfl (j0 (pv 0) (j0 (jp (jb K) (jM (j0 j6 (j0 j6 (j0 j6 j2)))) (jd c_law_take (hr.mono ⋯) rfl (j0 (pv 0) (j0 j6 j2))) (λ_ _=>rfl)) j2)))) j2))) (jc (i:=5) jB.nd rfl (aS rfl)) (j4 (ju 6 jB.nd (jd c_law_take (hr.mono ⋯) rfl (j0 (pv 0) (j0 (pv 5) j2))))
   (j4 (uQ (i:=7) jB.nd rfl (lq rfl) (jX (osc:=(j8 qU)) (ON:=["_law_box_here","_law_tops","_law_sizes","_law_rows","_law_deep","_law_number","_law_to","_law_led","_law_heads","_law_size"]) (N:=["_law_row"]) (own:=1) (caps:=[]) ⟨rfl,∅,∅,∅,rfl,∅⟩ rfl rfl rfl (jW K (pv 3)) (λ_ _ _ _ _=>(jc (i:=0) (show bj (["_law_row"]:List Str) by decide +kernel) rfl (aS rfl))) (λ_ _ _ _ _=>jF) (λ_ _ _ _ _=>(jp (qo K) (pv 0) j6 (λ_ _=>rfl)))))
   (j4 (ju 8 jB.nd (jg (jf K) rfl nb.b_len aT (j0 (jX (osc:=(j8 qU)) (ON:=["_law_box_here","_law_tops","_law_sizes","_law_rows","_law_deep","_law_number","_law_to","_law_led","_law_heads","_law_size"]) (N:=["_law_one","_law_led"]) (own:=1) (caps:=[7]) ⟨rfl,∅,∅,∅,rfl,∅⟩ rfl rfl rfl (qw rfl nb.b_range (j0 (pv 5) j2)) (λ_ _ _ _ _=>(jc (i:=0) (show bj (["_law_one","_law_led"]:List Str) by decide +kernel) rfl (aS rfl))) (λ_ _ _ _ _=>(w9 (jI (zi K) (pv 0) (pv 1) (by with_unfolding_all rfl)))) (λ_ _ _ _ _=>(pv 0))) j2)))
   (vB (qj (PW.pt (ZT (jI wg (pv 8) j6 (qe _)) (QO (jI (Qp K) (pv 6) (pv 7) (by with_unfolding_all rfl))))) (j9 (ju 6 jB.nd (jo xk (pv 5) j6))) jD)
   (j9 (qj (jI yw (jp (jb K) (pv 4) (pv 6) (λ_ _=>rfl)) j6 (qe _)) (j4 (ju 9 jB.nd (jo jJ j6 (jd c_law_take (hr.mono ⋯) rfl (j0 (pv 0) (j0 (jg (yj rfl) rfl nb.b_min oo (j0 j6 (j0 (jo xk j6 (jp (jb K) (pv 4) (pv 6) (λ_ _=>rfl))) j2))) j2)))))
   (j4 (jU (zW K bC bz bA qv (pv 1) (j0 (jg (yj rfl) rfl nb.b_min oo (j0 j6 (j0 (jo jJ (jp (jb K) (pv 1) (pv 6) (λ_ _=>rfl)) (jd c_law_take (hr.mono ⋯) rfl (j0 (pv 0) (j0 j6 j2)))) j2))) j2)))
   (j4 (jU (zW K bC bz bA qv (pv 3) (j0 (qZ (j0 (pv 6) (j0 (jT (xQ K) rfl nb.b_tuple cw (j0 (jd c_law_ground_drawn (hr.mono ⋯) rfl (j0 (pv 0) (j0 (jp (jb K) (pv 1) (uK yL j6) (λ_ _=>rfl)) (j0 (pv 9) j2)))) j2)) j2))) j2)))
   (j9 (jU (zW K bC bz bA qv (pv 4) (j0 (jo jJ (jp (jb K) (pv 4) (pv 6) (λ_ _=>rfl)) (pv 9)) j2))))))) (j9 (jj (pv 3))))))))))
   (j9 (jj (pv 3)))))))),?_⟩
  walk_at "r"
  refine ⟨L,b,_,rfl,B,⟨⋯,⋯⟩,λv1 H1 p1 q1 B1 X1=>?_⟩
  walk_at "r"
  refine ⟨by show 1<=sizeLine;decide,λtp H2 htp htp2 s2=>?_⟩
  have B2:=B1.same s2
  walk_at "r"
  refine ⟨L,b,_,rfl,B2,⟨⋯,⋯⟩,λv2 H3 p3 q3 B3 X3=>?_⟩
  have tb:=B1.ne htp
  have tL:=B1.neL htp
  walk_at "r"
  refine ⟨by show 1<=sizeLine;decide,λsz H4 hsz hsz4 s4=>?_⟩
  have B4:=B3.same s4
  have htp4:=s4 _ _ (X3 _ _ htp2 tb)
  walk_at "r"
  refine ⟨L,b,20+v1,1+v2,rfl,B4,(),(),(),λgl H5 hs B5 X5 hgl hgl5 hl hb=>?_⟩
  have szb:=B3.ne hsz
  have htp5:=X5 _ _ htp4 tb
  have hsz5:=X5 _ _ hsz4 szb
  refine ⟨gl,_,rfl,SqL.of hgl5,λgt H6 hgt hgt6 s6=>?_⟩
  refine ⟨by show 2<=sizeLine;decide,λrt H7 hrt hrt7 s7=>?_⟩
  refine ⟨by show 1<=sizeLine;decide,λrw H8 hrw hrw8 s8=>?_⟩
  have B8:=((B5.same s6).same s7).same s8
  have sm58:jn H5 H8:=(s6.trans s7).trans s8
  have hsz8:=sm58 _ _ hsz5
  have htp8:=sm58 _ _ htp5
  have hrw5:H5 rw=none:=(s6.trans s7).free hrw
  have B7:=(B5.same s6).same s7
  have rb:=B7.ne hrw
  have rL:=B7.neL hrw
  have tr:tp≠rw:=j1 ((s6.trans s7) _ _ htp5) hrw
  walk_at "r"
  refine ⟨by show 1<=sizeLine;decide,λdp H9 hdp hdp9 s9=>?_⟩
  have db:=B8.ne hdp
  have dL:=B8.neL hdp
  have td:tp≠dp:=j1 htp8 hdp
  have rd:rw≠dp:=j1 hrw8 hdp
  have nz:∀a,H8 a=none->a≠b->a≠L->H a=none:=λa ha ab aL=>by
   have a5:=sm58.free ha
   have a4:=X5.free a5 ab
   exact X1.free (s2.free (X3.free (s4.free a4) ab)) ab
  have nt:H tp=none:=X1.free htp tb
  have nr:H rw=none:=X1.free (s2.free (X3.free (s4.free (X5.free hrw5 rb)) rb)) rb
  have nd:H dp=none:=nz dp hdp db dL
  have D:RD L b tp rw dp H:=⟨tb,rb,db,tL,rL,dL,tr,td,rd,nt,nr,nd⟩
  have ok0:vQ [((0-1:Int),hs)]=true:=by
   unfold vQ okR xo
   simp only [aU,List.range_one,lP,List.all_nil,Bool.and_true]
   show (decide ((0-1:Int) = -1) && decide (1<=(hs.length:Int)/\(hs.length:Int)<=12) && hs.all λx=>decide (0<=x/\x<=99))=true
   rw [decide_eq_true (show 1<=(hs.length:Int)/\(hs.length:Int)<=12 by omega),bh,bG]
   exact ⟨rfl,λx hx=>decide_eq_true (hb x hx)⟩
  have rd0:qk [((0-1:Int),hs)] 0=[0]:=rfl
  have pl0:jx [((0-1:Int),hs)] [0]=hs.length:=by unfold jx;simp [zo]
  have G0:Grown [((0-1:Int),hs)]:=by
   refine ⟨ok0,aG (cj _ _) (by simp),λi hi=>?_⟩
   have:i=0:=by simp at hi;exact hi
   subst this
   rw [rd0,pl0]
   omega
  have ext8:Ext b H H8:=((((X1.trans (Ext.of_same s2)).trans X3).trans (Ext.of_same s4)).trans X5).trans (Ext.of_same sm58)
  have RG0:RG L b tp rw dp H H9 [20+v1] [.ref rt] [((0-1:Int),hs)] (xp [((0-1:Int),hs)]):=by
   refine ⟨B8.same s9,s9 _ _ htp8,s9 _ _ hrw8,?_,.cons ⟨rt,gt,rfl,s9 _ _ (s8 _ _ hrt7),s9 _ _ (s8 _ _ (s7 _ _ hgt6))⟩ .nil,ext8.trans (Ext.of_same s9)⟩
   rw [hdp9]
   show some (HO.lst [V.int (1+v2)])=some (.lst [V.int (jx [((0-1:Int),hs)] (qk [((0-1:Int),hs)] 0))])
   rw [rd0,pl0,hl]
  walk_at "r"
  refine ⟨by show 3<=sizeLine;decide,λq3' H10 hq hq10 s10=>?_⟩
  have RG1:=RG0.same s10
  walk_at "r"
  refine ⟨L,b,_,rfl,RG1.box,⟨⋯,⋯⟩,λv3 H11 p11 q11 B11 X11=>?_⟩
  have RG2:=RG1.take D B11 X11
  have hq11:=X11 _ _ hq10 (RG0.box.ne hq)
  obtain ⟨n,hn,n0,n8⟩:=U2 p11 q11
  refine ⟨_,_,_,_,rfl,rfl,SqL.of hq11,hn,?_⟩
  refine ⟨L,b,_,rfl,B11,⟨n0,()⟩,λv4 H12 p12 q12 B12 X12=>?_⟩
  have RG3:=RG2.take D B12 X12
  walk_at "r"
  refine ⟨1,1+v4,rfl,⟨(),(),(),()⟩,?_⟩
  have ht99:∀t∈[20+v1],t<=99:=λt ht=>by
   have:t=20+v1:=by simpa using ht
   omega
  have done:∀(H':Hp) ts xs rs ds,RG L b tp rw dp H H' ts xs rs ds->Grown rs->1<=rs.length->rs.length<=8->Q (.ref rw) H':=λH' ts xs rs ds G gr h1 h8=>k rw H' xs rs G.box G.ext nr G.hrw G.rows gr h1 h8
  refine xJ (lo:=1) (n:=(1+v4-1).toNat) (λi σ H'=>∃(v5 v6 v7 v8 v9:Option V) (ts:List Int) (xs:List V) (rs:List Rch),σ=[some (.ref b),some (.ref tp),some (.ref sz),some (.ref rw),some (.ref dp),v5,v6,v7,v8,v9]/\RG L b tp rw dp H H' ts xs rs (xp rs)/\Grown rs/\rs.length=i+1/\ts.length=i+1/\∀t∈ts,t<=99) ⟨_,_,_,_,_,_,_,_,rfl,RG3,G0,rfl,rfl,ht99⟩ ?_ ?_
  ·rintro i σ H' hi ⟨v5,v6,v7,v8,v9,ts,xs,rs,rfl,G,gr,hrl,htl,htb⟩
   have Ld:=jV gr.ok
   have hxl:=G.rows.length
   walk_at "r"
   refine ⟨L,b,_,rfl,G.box,⟨(),()⟩,λt Ha ha0 ha1 Ba Xa=>?_⟩
   have Ga:=G.take D Ba Xa
   walk_at "r"
   refine ⟨⟨_,SqL.of Ga.hrw⟩,λld hld=>?_⟩
   refine qg (K:=K) (a:=rw) (xs:=xs) (acc:=ld) (λj σ H2=>∃x:Option V,σ=[x]/\H2 ld=some (.lst (((rs.take j).map (·.1)).map V.int))/\Ext ld Ha H2) ?_ ?_ ?_ ?_
   ·exact ⟨none,rfl,j7,Ext.put⟩
   ·rintro j σ H2 hj ⟨x,rfl,h3,e3⟩
    exact SqL.of (e3 _ _ Ga.hrw (j1 Ga.hrw hld))
   ·rintro j v σ H2 hv ⟨x,rfl,h3,e3⟩
    obtain ⟨r,hr,q,g,rfl,hq,hg⟩:=(Ga.rows.keep (ji.new e3 hld)).get hv
    have hj:j<rs.length:=(List.getElem?_eq_some_iff.mp hr).1
    walk_at "r"
    refine ⟨_,h3,by rw [af,af,aW];exact je (),_,rfl,?_,e3.trans Ext.put⟩
    rw [j7,qr (λr:Rch=>r.1) rs j r hr,aE]
    rfl
   ·rintro σ H2 ⟨x,rfl,h3,e3⟩
    rw [hxl,bb] at h3
    have Gb:=Ga.extN hld e3
    walk_at "r"
    refine ⟨(),(),λhd hhd=>?_⟩
    have en:(1+(i:Int)).toNat=rs.length:=()
    refine xq (lo:=0) (n:=(1+(i:Int)).toNat) (acc:=hd) (λj σ H3=>∃(x:Option V) (vs:List V),σ=[x,some (.ref ld)]/\H3 hd=some (.lst vs)/\vs.length=((aO j).filter (jG rs)).length/\Ext hd H2 H3) ?_ ?_ ?_
    ·exact ⟨none,[],rfl,j7,rfl,Ext.put⟩
    ·rintro j σ H3 hj ⟨x,vs,rfl,h4,l4,e4⟩
     have er:((aO (j+1)).filter (jG rs)).length=((aO j).filter (jG rs)).length+(if jG rs j=true then 1 else 0):=by
      rw [cR,cK,av]
      congr 1
      by_cases z:jG rs j=true
      ·rw [if_pos z];simp [z]
      ·rw [if_neg z];simp [z]
     have hfl:((aO j).filter (jG rs)).length<=j:=aG (cj _ _) (by rw [bL];exact ao _)
     walk_at "r"
     refine ⟨ld,_,rfl,.inl (SqL.of (e4 _ _ h3 (j1 h3 hhd))),rfl,yh _,?_⟩
     walk_at "r"
     rw [iS,vC]
     refine zy (λhin=>?_) (λhin=>?_)
     ·have hb:jG rs j=true:=by unfold jG;rw [decide_eq_false (show ¬(j:Int)∈tos rs from hin)];rfl
      walk_at "r"
      refine ⟨vs,h4,je (),_,_,rfl,j7,?_,e4.trans Ext.put⟩
      rw [av,aU,er,if_pos hb,l4]
     ·have hb:¬jG rs j=true:=by unfold jG;rw [decide_eq_true (show (j:Int)∈tos rs from hin)];exact aq
      exact ⟨_,vs,rfl,h4,by rw [er,if_neg hb,l4,Nat.add_zero],e4⟩
    ·rintro σ H3 ⟨x,vs,rfl,h4,l4,e4⟩
     have Gc:=Gb.extN hhd e4
     have hld4:=e4 _ _ h3 (j1 h3 hhd)
     rw [en] at l4
     have l4':vs.length=(jm rs).length:=l4
     refine ⟨_,_,rfl,.inl (SqL.of h4),?_⟩
     refine ⟨λσ H5=>∃t':Int,σ=[some (.ref b),some (.ref tp),some (.ref sz),some (.ref rw),some (.ref dp),some (.int (1+(i:Int))),some (.int t'),some (.ref ld),some (.int vs.length),v9]/\H5=H3/\0<=t'/\t'<rs.length/\(t'∈tos rs->(jm rs).length<6),?_,?_⟩
     ·have hh:=gr.heads
      walk_at "r"
      refine qS (λh6=>?_) (λh6=>?_)
      ·walk_at "r"
       refine ⟨ld,_,rfl,.inl (SqL.of hld4),rfl,yh _,?_⟩
       walk_at "r"
       rw [vC]
       refine qS (λhin=>?_) (λhin=>?_)
       ·walk_at "r"
        refine ⟨(),(),λz=>?_⟩
        have:=Qa Ld z
        omega
       ·exact ⟨t,rfl,rfl,ha0,(),λz=>absurd z hin⟩
      ·have:(jm rs).length<6:=by
        have:(vs.length:Int)≠6:=λz=>h6 (by rw [z])
        omega
       exact ⟨t,rfl,rfl,ha0,(),λ_=>this⟩
     ·rintro σ H5 ⟨t',rfl,rfl,t0,t1,th⟩
      have hde:=Zn t0 t1
      walk_at "r"
      refine ⟨_,_,_,_,rfl,rfl,SqL.of Gc.hdp,hde,?_⟩
      walk_at "r"
      refine qS (λh30=>?_) (λh30=>?_)
      ·have hdp0:=gr.deep t'.toNat ()
       generalize hdt:jx rs (qk rs t'.toNat)=dt at hde h30 hdp0
       walk_at "r"
       refine ⟨_,_,_,_,rfl,rfl,SqL.of Gc.hdp,hde,?_⟩
       walk_at "r"
       refine ⟨_,_,rfl,?_⟩
       refine ⟨L,b,_,rfl,Gc.box,⟨by split <;> omega,by split <;> omega⟩,λv5' H6 p6 q6 B6 X6=>?_⟩
       have Gd:=Gc.take D B6 X6
       have hz12:1+v5'<=12/\dt+(1+v5')<=30:=by
        have q6':=q6
        split at q6' <;> omega
       walk_at "r"
       refine ⟨.inl ⟨rfl,_,SqL.of Gd.htp⟩,?_⟩
       walk_at "r"
       have hti:t'.toNat<ts.length:=()
       refine ⟨_,_,_,_,rfl,rfl,SqL.of Gd.htp,qx t0 (by rw [ar,aa hti];rfl),?_⟩
       walk_at "r"
       refine ⟨L,b,_,rfl,Gd.box,⟨⋯,⋯⟩,λv6' H7 p7 q7 B7 X7=>?_⟩
       have Ge:=Gd.take D B7 X7
       walk_at "r"
       refine ⟨_,_,rfl,?_⟩
       generalize hnew:(if ts[t'.toNat]'hti+v6'<99 then ts[t'.toNat]'hti+v6' else 99)=new
       have hnew99:new<=99:=by rw [<- hnew];split <;> omega
       walk_at "r"
       refine ⟨tp,_,_,rfl,rfl,Ge.htp,by rw [af];exact je (),?_⟩
       have Gf:RG L b tp rw dp H (upd H7 tp (.lst (ts.map V.int++[V.int new]))) (ts++[new]) xs rs (xp rs):=by
        have:=Ge.putT D (ts++[new])
        rw [aE] at this
        exact this
       walk_at "r"
       refine ⟨.inl ⟨rfl,_,SqL.of Gf.hrw⟩,?_⟩
       walk_at "r"
       refine ⟨_,_,_,_,rfl,rfl,SqL.of j7,Jl _ _,?_⟩
       walk_at "r"
       refine ⟨L,b,new,1+v5',rfl,Gf.box,hnew99,(),(),λgl' H8 hs' B8' X8 hgl' hgl8 hl' hb'=>?_⟩
       have Gg:=Gf.take D B8' X8
       refine ⟨gl',_,rfl,SqL.of hgl8,λgt' H9' hgt' hgt9 s9'=>?_⟩
       refine ⟨by show 2<=sizeLine;decide,λrt' H10' hrt' hrt10 s10'=>?_⟩
       have Gh:=(Gg.same s9').same s10'
       walk_at "r"
       refine ⟨rw,_,_,rfl,rfl,Gh.hrw,je (),?_⟩
       have okn:okR rs.length (t',hs')=true:=YL () t0 t1 hl' () () hb'
       have Gi:=Gh.putR D (v:=.ref rt') (r:=(t',hs')) ⟨rt',gt',rfl,hrt10,s10' _ _ hgt9⟩
       walk_at "r"
       refine ⟨.inl ⟨rfl,_,SqL.of Gi.hdp⟩,?_⟩
       walk_at "r"
       refine ⟨_,_,_,_,rfl,rfl,SqL.of Gi.hdp,hde,?_⟩
       walk_at "r"
       have hdl:(xp rs).length=rs.length:=by unfold xp;simp
       refine ⟨dp,_,_,rfl,rfl,Gi.hdp,by rw [af];exact je (),?_⟩
       have Gj:RG L b tp rw dp H (upd (upd H10' rw (.lst (xs++[.ref rt']))) dp (.lst ((xp rs).map V.int++[V.int (dt+(1+v5'))]))) (ts++[new]) (xs++[.ref rt']) (rs++[(t',hs')]) (xp (rs++[(t',hs')])):=by
        have:=Gi.putD D (xp rs++[dt+(1+v5')])
        rw [aE] at this
        rw [J4 gr t0 t1 okn,hdt,hl']
        exact this
       refine ⟨_,_,_,_,_,_,_,_,rfl,Gj,gr.snoc t0 t1 okn th (by rw [hdt];omega),by rw [av,hrl];rfl,by rw [av,htl];rfl,λt ht=>?_⟩
       rcases List.mem_append.mp ht with ht | ht
       ·exact htb t ht
       ·have:t=new:=by simpa using ht
        omega
      ·walk_at "r"
       exact done _ _ _ _ _ Gc gr () ()
  ·rintro σ H' ⟨v5,v6,v7,v8,v9,ts,xs,rs,rfl,G,gr,hrl,htl,htb⟩
   walk_at "r"
   exact done _ _ _ _ _ G gr () ()
def Zc (t:TE):Prop:=∀σ H Q Q',(∀v H,Q v H->Q' v H)->t σ H Q->t σ H Q'
def Yb (r:R2):Prop:=∀x y H Q Q',(∀v H,Q v H->Q' v H)->r x y H Q->r x y H Q'
theorem QS (i:Nat):Zc (VA i):=λ_ _ _ _ h ⟨v,e,q⟩=>⟨v,e,h _ _ q⟩
theorem Xo (v:V):Zc (tC v):=λ_ _ _ _ h q=>h _ _ q
theorem uV {r:R2}{ta tb:TE}(hr:Yb r) (ha:Zc ta) (hb:Zc tb):Zc (tOp r ta tb):=λσ H Q Q' h q=>ha σ H _ _ (λx H1 q1=>hb σ H1 _ _ (λy H2 q2=>hr x y H2 _ _ h q2) q1) q
theorem Xq (K:ai):Yb (Ue K):=λ_ _ _ _ _ h ⟨a,xs,i,v,e1,e2,e3,e4,q⟩=>⟨a,xs,i,v,e1,e2,e3,e4,h _ _ q⟩
theorem Yq (K:ai):Yb (Vs K):=λ_ _ _ _ _ h ⟨a,xs,i,v,e1,e2,e3,e4,q⟩=>⟨a,xs,i,v,e1,e2,e3,e4,h _ _ q⟩
theorem Uk (g:Int->Int->V):Yb (rI0 g):=λ_ _ _ _ _ h ⟨i,j,e1,e2,q⟩=>⟨i,j,e1,e2,h _ _ q⟩
theorem VI:Yb rNe:=λ_ _ _ _ _ h ⟨e,q⟩=>⟨e,h _ _ q⟩
theorem ZK {t:TE}(ht:Zc t):∀σ H Q Q',(∀b H1,Q b H1->Q' b H1)->Xm t σ H Q->Xm t σ H Q':=λσ H Q Q' h q=>ht σ H _ _ (λ_ _ ⟨k,e,q⟩=>⟨k,e,h _ _ q⟩) q
theorem J6 {α:Type}{x:α}{l:List α}:atI (x::l) 0=some x:=xW (j:=0) rfl
def vw (fd:Addr) (H:Hp) (vs:List V) (rows:List (List Int)):Prop:=cf (λv (r:List Int)=>∃a,v=V.ref a/\a≠fd/\H a=some (.lst (r.map V.int))) vs rows
theorem vw.ext {fd:Addr}{H H':Hp}{vs:List V}{rows:List (List Int)}(h:vw fd H vs rows) (e:Ext fd H H'):vw fd H' vs rows:=Paired.mapP h λ_ _ ⟨a,e1,n,q⟩=>⟨a,e1,n,e _ _ q n⟩
theorem vw.rowsI {fd:Addr}{H:Hp}{vs:List V}{rows:List (List Int)}(h:vw fd H vs rows):zN H vs rows:=Paired.mapP h λ_ _ ⟨a,e1,n,q⟩=>⟨a,e1,q⟩
theorem wm {H:Hp}{vs:List V}{ws:List (List Int)}(h:zN H vs ws):∀ix:List Nat,(∀i∈ix,i<vs.length)->zN H (ix.map λi=>vs.getD i V.non) (ix.map λi=>ws.getD i [])
 | [],_=>.nil
 | i::ix,hb=>by
  refine .cons ?_ (wm h ix λj hj=>hb j (az _ hj))
  have hi:=hb i aC
  obtain ⟨y,e2,a,e3,e4⟩:=Paired.get h (aa hi)
  refine ⟨a,?_,?_⟩
  ·show vs.getD i V.non=V.ref a
   rw [ak,aa hi];exact e3
  ·show H a=some (.lst ((ws.getD i []).map V.int))
   rw [ak,e2];exact e4
def Jy (K:ai):Sp:=λvs H Q _=>∃(p:Addr) (xs:List V) (rs:List Rch),vs=[.ref p]/\H p=some (.lst xs)/\jN H xs rs/\x4 rs/\rs.length<=60/\∀l H' out ws,H l=none->H' l=some (.lst out)->zN H' out ws->jQ rs ws->jn H H'->Q (.ref l) H'
theorem qJ:FnScope ["_law_reaches_here","_law_led","_law_found","_law_head","_law_road"] ["_law_reaches_here"] (j8 xA):=by walk_at "s"
theorem ZW {f:Addr}{fd:FuncData}(nb:Nb2 mg) (F:Fun K "_law_roads" "_law_roads" xA f fd):FnOk P w K mg base CX0 1 f fd ["_law_reaches_here"] (Jy K):=by
 refine F.ok qJ (λvs H Q E h=>?_) (λcdv A outer s H vs Q E hr h=>?_)
 ·obtain ⟨p,xs,rs,rfl,_⟩:=h
  rfl
 ·obtain ⟨p,xs,rs,rfl,hp,hrw,L,h60,k⟩:=h
  have hlen:=hrw.length
  refine ⟨_,(j4 (Xp (j:=1) (osc:=(j8 xA)) (ON:=["_law_reaches_here","_law_led","_law_found","_law_head","_law_road"]) (N:=["_law_to","_law_ground_here"]) (own:=2) (caps:=[]) ⟨rfl,∅,∅,∅,rfl,∅⟩ qJ.nd rfl (aS rfl) rfl rfl rfl (jW K (pv 0)) (λ_ _ _ _ _=>(qI (n:=2) K rfl (jr (jc (i:=0) (show bj (["_law_to","_law_ground_here"]:List Str) by decide +kernel) rfl (aS rfl)) (jr (jc (i:=1) (show bj (["_law_to","_law_ground_here"]:List Str) by decide +kernel) rfl (aS rfl)) qN)))) (λ_ _ _ _ _=>jF) (λ_ _ _ _ _=>(pv 0)))
   (j4 (ju 2 qJ.nd (jM j2))
   (j4 (xh bt rfl (qw rfl nb.b_range (j0 (jg (jf K) rfl nb.b_len aT (j0 (pv 0) j2)) j2)) (jc (i:=3) qJ.nd rfl (aS rfl)) (j9 (qj (jI (zi K) (pv 3) (pv 1) (by with_unfolding_all rfl)) (j4 (ju 4 qJ.nd (jM (j0 (pv 3) j2)))
   (j4 (Jq bt (jI UD (jp (qo K) (jp (jb K) (pv 0) (jp (jb K) (pv 4) j6 (λ_ _=>rfl)) (λ_ _=>rfl)) j6 (λ_ _=>rfl)) (jo xk j6 j6) (qe _)) (j9 (ju 4 qJ.nd (jo Va (jM (j0 (jp (qo K) (jp (jb K) (pv 0) (jp (jb K) (pv 4) j6 (λ_ _=>rfl)) (λ_ _=>rfl)) j6 (λ_ _=>rfl)) j2)) (pv 4)))))
   (j9 (jU (zW K bC bz bA qv (pv 2) (j0 (pv 4) j2)))))) jD)))
   (j9 (jj (jX (osc:=(j8 xA)) (ON:=["_law_reaches_here","_law_led","_law_found","_law_head","_law_road"]) (N:=["_law_road"]) (own:=1) (caps:=[]) ⟨rfl,∅,∅,∅,rfl,∅⟩ rfl rfl rfl (jW K (jg (wK K hr.units) rfl nb.b_sorted mY (j0 (pv 2) j2))) (λ_ _ _ _ _=>(jc (i:=0) (show bj (["_law_road"]:List Str) by decide +kernel) rfl (aS rfl))) (λ_ _ _ _ _=>jF) (λ_ _ _ _ _=>(Yo K (pv 0))))))))),?_⟩
  walk_at "r"
  refine ⟨⟨_,SqL.of hp⟩,λen hen=>?_⟩
  refine qg (K:=K) (a:=p) (xs:=xs) (acc:=en) (λj σ H2=>∃x y:Option V,σ=[x,y]/\H2 en=some (.lst (((rs.take j).map (·.1)).map V.int))/\Ext en H H2) ?_ ?_ ?_ ?_
  ·exact ⟨none,none,rfl,j7,Ext.put⟩
  ·rintro j σ H2 hj ⟨x,y,rfl,h3,e3⟩
   exact SqL.of (e3 _ _ hp (j1 hp hen))
  ·rintro j v σ H2 hv ⟨x,y,rfl,h3,e3⟩
   obtain ⟨r,hr,q,g,rfl,hq,hg⟩:=(hrw.keep (ji.new e3 hen)).get hv
   have hj:j<rs.length:=(List.getElem?_eq_some_iff.mp hr).1
   walk_at "r"
   refine ⟨q,_,rfl,SqT.of hq,rfl,?_⟩
   refine ⟨_,_,rfl,_,_,rfl,rfl,?_⟩
   walk_at "r"
   refine ⟨_,h3,by rw [af,af,aW];exact je (),_,_,rfl,?_,e3.trans Ext.put⟩
   rw [j7,qr (λr:Rch=>r.1) rs j r hr,aE]
   rfl
  ·rintro σ H2 ⟨x,y,rfl,h3,e3⟩
   rw [hlen,bb] at h3
   have sm2:jn H H2:=λc o hc=>e3 c o hc (j1 hc hen)
   walk_at "r"
   refine ⟨aJ _,λfo H3 hfo hfo3 s3=>?_⟩
   have hp3:=s3 _ _ (sm2 _ _ hp)
   have hrw3:jN H3 xs rs:=hrw.keep (ji.same (sm2.trans s3))
   have hen3:=s3 _ _ h3
   have hfoH:H fo=none:=sm2.free hfo
   walk_at "r"
   refine ⟨_,_,rfl,.inl (SqL.of hp3),?_⟩
   refine ⟨_,rfl,(),(),?_⟩
   rw [hlen]
   refine xJ (lo:=0) (n:=((rs.length:Nat):Int).toNat) (λj σ H4=>∃(v3 v4:Option V) (vs:List V),σ=[some (.ref p),some (.ref en),some (.ref fo),v3,v4]/\H4 fo=some (.lst vs)/\vw fo H4 vs (((aO j).filter (jG rs)).map λh=>(qk rs h).reverse)/\Ext fo H3 H4/\vs.length<=j) ?_ ?_ ?_
   ·exact ⟨_,_,[],rfl,hfo3,.nil,Ext.refl,ao _⟩
   ·rintro j σ H4 hj ⟨v3,v4,vs,rfl,h4,w4,e4,l4⟩
    have hj':j<rs.length:=()
    have kt4:ji H3 H4:=ji.lst e4 hfo3
    have hen4:=e4 _ _ hen3 (j1 h3 hfo)
    have hp4:=e4 _ _ hp3 (j1 (sm2 _ _ hp) hfo)
    have hrw4:jN H4 xs rs:=hrw3.keep kt4
    have er:(aO (j+1)).filter (jG rs)=(aO j).filter (jG rs)++(if jG rs j=true then [j] else []):=by
     rw [cR,cK]
     congr 1
     by_cases z:jG rs j=true
     ·rw [if_pos z];simp [z]
     ·rw [if_neg z];simp [z]
    walk_at "r"
    refine ⟨en,_,rfl,.inl (SqL.of hen4),rfl,yh _,?_⟩
    walk_at "r"
    rw [iS,vC]
    refine zy (λhin=>?_) (λhin=>?_)
    ·have hb:jG rs j=true:=by unfold jG;rw [decide_eq_false (show ¬(j:Int)∈tos rs from hin)];rfl
     walk_at "r"
     refine ⟨by show 1<=sizeLine;decide,λr0 H5 hr0 hr05 s5=>?_⟩
     walk_at "r"
     refine gS (λσ H6=>∃(a:Addr) (r:Nat) (l:List Int),σ=[some (.ref p),some (.ref en),some (.ref fo),some (.int (j:Int)),some (.ref a)]/\jn H4 H6/\H4 a=none/\H6 a=some (.lst (((r:Int)::l).map V.int))/\r<rs.length/\l.length+r<=100/\l.reverse++qk rs r=qk rs j) (λσ H6=>match σ with | [_,_,_,_,some (.ref a)]=>(match H6 a with | some (.lst (.int r::_))=>r.toNat | _=>0) | _=>0) ?_ ?_ ?_
     ·exact ⟨r0,j,[],rfl,s5,hr0,hr05,hj',by simp;omega,rfl⟩
     ·rintro σ H6 ⟨a,r,l,rfl,s6,ha4,ha6,hrl,hll,heq⟩
      have hp6:=s6 _ _ hp4
      obtain ⟨v,hv,q,g,rfl,hq,hg⟩:=(hrw4.keep (ji.same s6)).at (aa hrl)
      have ht:=L.lt hrl
      have hl3:=uN (L _ hrl)
      have et:=kU (aa hrl)
      rw [et] at ht hl3
      generalize (rs[r]'hrl).1=tt at ht hl3 et hq
      walk_at "r"
      refine ⟨_,_,_,_,rfl,rfl,SqL.of ha6,J6,?_⟩
      refine ⟨_,_,_,_,rfl,rfl,SqL.of hp6,xW hv,?_⟩
      refine ⟨_,_,_,_,rfl,rfl,SqT.of hq,rfl,?_⟩
      walk_at "r"
      refine zy (λhne=>?_) (λhne=>?_)
      ·have htt:0<=tt:=by
        have:tt ≠ -1:=λz=>hne (by rw [z];rfl)
        omega
       walk_at "r"
       refine ⟨_,_,_,_,rfl,rfl,SqL.of ha6,J6,?_⟩
       refine ⟨_,_,_,_,rfl,rfl,SqL.of hp6,xW hv,?_⟩
       refine ⟨_,_,_,_,rfl,rfl,SqT.of hq,rfl,?_⟩
       refine ⟨by show 1<=sizeLine;decide,λc1 H7 hc1 hc17 s7=>?_⟩
       walk_at "r"
       refine ⟨c1,a,_,_,rfl,rfl,hc17,s7 _ _ ha6,?_,λc2 H8 hc2 hc28 s8=>?_⟩
       ·show 1+(((r:Int)::l).map V.int).length<=sizeLine
        rw [af,ba]
        exact cT (je ())
       ·have ett:tt=((tt.toNat:Nat):Int):=()
        refine ⟨⟨c2,tt.toNat,(r:Int)::l,rfl,(s6.trans s7).trans s8,(s6.trans s7).free hc2,?_,(),?_,?_⟩,?_⟩
        ·rw [hc28,ett]
         simp only [bK]
         rfl
        ·rw [ba];omega
        ·rw [i4,dv,<- heq,xX L hrl,et,if_neg ()]
         rfl
        ·show (match H8 c2 with | some (.lst (.int r::_))=>r.toNat | _=>0)<(match H6 a with | some (.lst (.int r::_))=>r.toNat | _=>0)
         rw [hc28,ha6]
         show tt.toNat<((r:Int)).toNat
         omega
      ·have htm:tt = -1:=V.int.inj hne
       have hfo6:=s6 _ _ h4
       walk_at "r"
       refine ⟨.inl ⟨rfl,_,SqL.of hfo6⟩,?_⟩
       walk_at "r"
       refine ⟨fo,_,_,rfl,rfl,hfo6,je (),?_⟩
       have naf:a≠fo:=λz=>by rw [z,h4] at ha4;cases ha4
       refine ⟨_,_,vs++[.ref a],rfl,j7,?_,λc o hc n=>by rw [j5 n];exact s6 _ _ (e4 c o hc n),by rw [av,aU];omega⟩
       rw [er,if_pos hb,aE]
       refine vw.ext (cu (w4.ext (Ext.of_same s6)) ⟨a,rfl,naf,?_⟩) Ext.put
       show H6 a=some (.lst (((qk rs j).reverse).map V.int))
       rw [ha6,<- heq,xX L hrl,et,if_pos (),List.reverse_append,dC]
       rfl
     ·exact ZK (uV VI (uV (Yq K) (uV (Xq K) (QS 0) (uV (Xq K) (QS 4) (Xo _))) (Xo _)) (uV (Uk _) (Xo _) (Xo _)))
    ·have hb:¬jG rs j=true:=by unfold jG;rw [decide_eq_true (show (j:Int)∈tos rs from hin)];exact aq
     refine ⟨_,_,vs,rfl,h4,?_,e4,()⟩
     rw [er,if_neg hb,br]
     exact w4
   ·rintro σ H4 ⟨v3,v4,vs,rfl,h4,w4,e4,l4⟩
    rw [bK] at w4 l4
    have sm4:jn H H4:=λc o hc=>e4 _ _ (s3 _ _ (sm2 _ _ hc)) (j1 hc hfoH)
    walk_at "r"
    refine ⟨fo,vs,_,rfl,SqL.of h4,(),w4.rowsI,λso H5 out hso hso5 s5 hs=>?_⟩
    obtain ⟨ix,hpx,eo,hpw⟩:=hs
    have hvl:vs.length=(jm rs).length:=by rw [aP w4,af];rfl
    have hb:∀i∈ix,i<vs.length:=λi hi=>by have:=hpx.mem_iff.mp hi;simpa using this
    have hri:=wm (w4.rowsI) ix hb
    have hw5:zN H5 out (ix.map λi=>(((jm rs).map λh=>(qk rs h).reverse).getD i [])):=by
     rw [eo]
     exact Paired.mapP hri λ_ _ ⟨a,e1,q⟩=>⟨a,e1,s5 _ _ q⟩
    have hol:out.length<=60:=by rw [eo,af,hpx.length_eq,bL];omega
    generalize hrv:(ix.map λi=>(((jm rs).map λh=>(qk rs h).reverse).getD i []))=rv at hw5
    have hrvl:=aP hw5
    have isr:jQ rs (rv.map cb):=by
     refine ⟨?_,?_⟩
     ·have h1:=hpx.map λi=>(((jm rs).map λh=>(qk rs h).reverse).getD i [])
      rw [hvl,show (jm rs).length=((jm rs).map λh=>(qk rs h).reverse).length by rw [af],gY,hrv] at h1
      have h2:=h1.map cb
      rw [bB] at h2
      refine h2.trans (List.Perm.of_eq (cD λx _=>?_))
      exact dC _
     ·rw [bB,show (cb ∘ cb:List Int->List Int)=id from funext λx=>dC x,lA,<- hrv]
      exact hpw
    refine ⟨so,rfl,⟨_,SqL.of hso5⟩,λacc hacc=>?_⟩
    refine qg (K:=K) (a:=so) (xs:=out) (acc:=acc) (λj σ H6=>∃(x:Option V) (us:List V),σ=[x]/\H6 acc=some (.lst us)/\vw acc H6 us ((rv.take j).map cb)/\Ext acc H5 H6/\us.length=j) ?_ ?_ ?_ ?_
    ·exact ⟨none,[],rfl,j7,.nil,Ext.put,rfl⟩
    ·rintro j σ H6 hj ⟨x,us,rfl,h6,w6,e6,l6⟩
     exact SqL.of (e6 _ _ hso5 (j1 hso5 hacc))
    ·rintro j v σ H6 hv ⟨x,us,rfl,h6,w6,e6,l6⟩
     obtain ⟨y,e2,a,rfl,ha⟩:=Paired.get hw5 hv
     have hj:j<rv.length:=(List.getElem?_eq_some_iff.mp e2).1
     walk_at "r"
     refine ⟨a,_,rfl,SqL.of (e6 _ _ ha (j1 ha hacc)),λq H7 hq hq7 s7=>?_⟩
     have h7:=s7 _ _ h6
     have nq:q≠acc:=λz=>by rw [z,h6] at hq;cases hq
     refine ⟨us,h7,je (),_,us++[.ref q],rfl,j7,?_,λc o hc n=>by rw [j5 n];exact s7 _ _ (e6 c o hc n),by rw [av,l6];rfl⟩
     rw [qr cb rv j y e2]
     refine vw.ext (cu (w6.ext (Ext.of_same s7)) ⟨q,rfl,nq,?_⟩) Ext.put
     rw [hq7,mO]
    ·rintro σ H6 ⟨x,us,rfl,h6,w6,e6,l6⟩
     rw [hrvl,bb] at w6
     exact k acc H6 us _ (sm4.free (s5.free hacc)) h6 w6.rowsI isr λc o hc=>e6 _ _ (s5 _ _ (sm4 _ _ hc)) (j1 (s5 _ _ (sm4 _ _ hc)) hacc)
def ja (rs:List Rch) (way:List Int):List Int:=(way.map λr=>zo rs r.toNat).flatten
theorem wc (rs:List Rch):∀way:List Int,((ja rs way).length:Int)=jx rs way
 | []=>rfl
 | r::way=>by
  rw [qV,<- wc rs way]
  unfold ja
  rw [aH,i6,av]
  push_cast
  rfl
theorem Ub {n:Nat}(h:n<=100000):n<sizeLine:=bN h ⋯
theorem uj (rs:List Rch) (way:List Int) (j:Nat) (r:Int) (h:way[j]? = some r):ja rs (way.take (j+1))=ja rs (way.take j)++zo rs r.toNat:=by
 unfold ja
 rw [c8,h,aE,List.flatten_append]
 congr 1
 show [zo rs r.toNat].flatten=_
 simp
theorem vP {rs:List Rch}(h100:∀r∈rs,r.2.length<=100):∀way:List Int,(ja rs way).length<=100*way.length
 | []=>by unfold ja;simp
 | r::way=>by
  have ih:=vP h100 way
  have h1:(zo rs r.toNat).length<=100:=by
   unfold zo
   rw [ak]
   cases e:rs[r.toNat]? with
   | none=>simp
   | some q=>exact h100 q (au e)
  unfold ja at ih ⊢
  rw [aH,i6,av,ba]
  omega
def Je (K:ai):Sp:=λvs H Q _=>∃(p a:Addr) (xs:List V) (rs:List Rch) (way:List Int),vs=[.ref p,.ref a]/\H p=some (.lst xs)/\jN H xs rs/\(∀r∈rs,r.2.length<=100)/\H a=some (.lst (way.map V.int))/\(∀r∈way,0<=r/\r<rs.length)/\way.length<=100/\∀l H',H l=none->H' l=some (.lst ((ja rs way).map V.int))->jn H H'->Q (.ref l) H'
theorem xr:FnScope ["_law_reaches_here","_law_road","_law_found","_law_reach","_law_height"] ["_law_reaches_here","_law_road"] (j8 zJ):=by walk_at "s"
theorem XQ {f:Addr}{fd:FuncData}(F:Fun K "_law_ground" "_law_ground" zJ f fd):FnOk P w K mg base CX0 1 f fd ["_law_reaches_here","_law_road"] (Je K):=by
 refine F.ok xr (λvs H Q E h=>?_) (λcdv A outer s H vs Q E hr h=>?_)
 ·obtain ⟨p,a,xs,rs,way,rfl,_⟩:=h
  rfl
 ·obtain ⟨p,a,xs,rs,way,rfl,hp,hrw,h100,ha,hin,hwl,k⟩:=h
  have hlen:=hrw.length
  refine ⟨_,(j4 (ju 2 xr.nd (jM j2))
   (j4 (xh bt rfl (jW K (pv 1)) (jc (i:=3) xr.nd rfl (aS rfl)) (j9 (xh bt rfl (vi K (jp (qo K) (jp (jb K) (pv 0) (pv 3) (λ_ _=>rfl)) j6 (λ_ _=>rfl))) (jc (i:=4) xr.nd rfl (aS rfl)) (j9 (jU (zW K bC bz bA qv (pv 2) (j0 (pv 4) j2)))))))
   (j9 (jj (pv 2))))),?_⟩
  walk_at "r"
  refine ⟨aJ _,λfo H1 hfo hfo1 s1=>?_⟩
  have ha1:=s1 _ _ ha
  walk_at "r"
  refine ⟨⟨_,SqL.of ha1⟩,vg (K:=K) (a:=a) (xs:=way.map V.int) (λj σ H2=>∃x y:Option V,σ=[some (.ref p),some (.ref a),some (.ref fo),x,y]/\H2 fo=some (.lst ((ja rs (way.take j)).map V.int))/\Ext fo H1 H2) ⟨_,_,rfl,hfo1,Ext.refl⟩ ?_ ?_ ?_⟩
  ·rintro j σ H2 hj ⟨x,y,rfl,h2,e2⟩
   exact SqL.of (e2 _ _ ha1 (j1 ha hfo))
  ·rintro j v σ H2 hv ⟨x,y,rfl,h2,e2⟩
   obtain ⟨r,rfl⟩:=zY hv
   have hz:way[j]? = some r:=by
    rw [ar] at hv
    cases e:way[j]? with
    | none=>rw [e] at hv;cases hv
    | some y=>rw [e] at hv;cases hv;rfl
   have hj:j<way.length:=(List.getElem?_eq_some_iff.mp hz).1
   have hr:=hin r (au hz)
   have hi:r.toNat<rs.length:=()
   obtain ⟨v,hv',q,g,rfl,hq,hg⟩:=(hrw.keep ((ji.same s1).trans (ji.lst e2 hfo1))).at (aa hi)
   have hsl:=h100 _ (bH hi)
   have hgl:=vP h100 (way.take j)
   have htl:(way.take j).length<=100:=by rw [aW];omega
   walk_at "r"
   refine ⟨_,_,_,_,rfl,rfl,SqL.of (e2 _ _ (s1 _ _ hp) (j1 hp hfo)),qx hr.1 hv',?_⟩
   refine ⟨_,_,_,_,rfl,rfl,SqT.of hq,rfl,?_⟩
   refine ⟨g,rfl,⟨_,SqT.of hg⟩,V4 (K:=K) (a:=g) (xs:=(rs[r.toNat]'hi).2.map V.int) (λi σ H3=>∃y:Option V,σ=[some (.ref p),some (.ref a),some (.ref fo),some (.int r),y]/\H3 fo=some (.lst ((ja rs (way.take j)++(rs[r.toNat]'hi).2.take i).map V.int))/\Ext fo H2 H3) ⟨_,rfl,?_,Ext.refl⟩ ?_ ?_ ?_⟩
   ·rw [oq,br];exact h2
   ·rintro i σ H3 hi3 ⟨y,rfl,h3,e3⟩
    exact SqT.of (ji.lst e3 h2 _ _ hg)
   ·rintro i v σ H3 hv3 ⟨y,rfl,h3,e3⟩
    obtain ⟨z,rfl⟩:=zY hv3
    have hz3:(rs[r.toNat]'hi).2[i]? = some z:=by
     rw [ar] at hv3
     cases e:(rs[r.toNat]'hi).2[i]? with
     | none=>rw [e] at hv3;cases hv3
     | some y=>rw [e] at hv3;cases hv3;rfl
    walk_at "r"
    refine ⟨.inl ⟨rfl,_,SqL.of h3⟩,?_⟩
    walk_at "r"
    refine ⟨fo,_,_,rfl,rfl,h3,?_,?_⟩
    ·rw [af,av,aW]
     exact Ub ()
    ·refine ⟨_,rfl,?_,e3.trans Ext.put⟩
     rw [j7,c8,hz3,<- dv,aE,aE,aE]
     rfl
   ·rintro σ H3 ⟨y,rfl,h3,e3⟩
    refine ⟨_,_,rfl,?_,e2.trans e3⟩
    rw [h3,af,bb,uj rs way j r hz,hW (aa hi)]
  ·rintro σ H2 ⟨x,y,rfl,h2,e2⟩
   rw [af,bb] at h2
   walk_at "r"
   exact k fo H2 hfo h2 λc o hc=>e2 _ _ (s1 _ _ hc) (j1 hc hfo)
def X0 (Pt C:Addr):Sp:=λvs H Q E=>∃(p:Addr) (xs:List V) (rs:List Rch) (l:Int),vs=[.ref p,.int l]/\H p=some (.lst xs)/\jN H xs rs/\x4 rs/\rs.length<=60/\qm H Pt /\
 (∀t H' ws (i:Nat),l=i->i<ws.length->jQ rs ws->H' t=some (.tup ((ws.getD i []).map V.int))->Ext Pt H H'->qm H' Pt->Q (.ref t) H')/\∀H',(l<0\/((jm rs).length:Int)<=l)->Ext Pt H H'->qm H' Pt->E (.ref C) none H'
theorem kC:FnScope ["reaches","lane","ways"] ["reaches","lane"] (j8 wD):=by walk_at "s"
theorem Z6 {f Pt C:Addr}{fd:FuncData}(nb:Nb2 mg) (e_NoLane:mg "NoLane" = some (.ref C)) (x_NoLane:cI K C [.type "ValueError",.type "Exception",.type "BaseException",.type "object"] "ValueError.__new__" = true) (c_lanes:Cal P w K mg base 5 "lanes" ["reaches"] (vf K Pt)) (F:Fun K "way_of" "way_of" wD f fd):FnOk P w K mg base (CX1 P w) 6 f fd ["reaches","lane"] (X0 Pt C):=by
 refine Fun.okX F kC (λvs H Q E h=>?_) (λcdv A outer s H vs Q E hr h=>?_)
 ·obtain ⟨p,xs,rs,l,rfl,_⟩:=h
  rfl
 ·obtain ⟨p,xs,rs,l,rfl,hp,hrw,L,h60,hT,k,kx⟩:=h
  refine ⟨_,(j4 (ju 2 kC.nd (jd c_lanes (hr.mono ⋯) rfl (j0 (pv 0) j2)))
   (j4 (qj (qT (x5 qq yw j6 (pv 1) (jg (jf K) rfl nb.b_len aT (j0 (pv 2) j2)))) (j9 (xl bo x_NoLane e_NoLane rfl xH rfl (j0 jw j2))) jD)
   (j9 (jj (jp (jb K) (pv 2) (pv 1) (λ_ _=>rfl)))))),?_⟩
  walk_at "r"
  refine ⟨p,xs,rs,rfl,hp,hrw,L,h60,hT,λo H1 out ws ho ho1 hw hR X1 T1=>?_⟩
  have hlen:out.length=ws.length:=hw.length
  have hws:(ws.length:Int)=((jm rs).length:Int):=by rw [hR.length]
  walk_at "r"
  refine qS (λh0=>?_) (λh0=>?_)
  ·walk_at "r"
   refine ⟨_,_,rfl,.inl (SqL.of ho1),?_⟩
   walk_at "r"
   refine zy (λh1=>?_) (λh1=>?_)
   ·walk_at "r"
    exact ⟨by show 1<=sizeLine;decide,kx H1 (.inr ()) X1 T1⟩
   ·have hi:l.toNat<out.length:=()
    obtain ⟨wy,hwy,a,hov,ha⟩:=Paired.get hw (aa hi)
    have el:l=(l.toNat:Int):=()
    walk_at "r"
    refine ⟨_,_,_,_,rfl,rfl,SqL.of ho1,(by rw [el];exact xW (aa hi)),?_⟩
    rw [hov]
    refine k a H1 ws l.toNat el () hR ?_ X1 T1
    rw [ha,ak,hwy]
    rfl
  ·walk_at "r"
   refine wL ?_
   walk_at "r"
   exact ⟨by show 1<=sizeLine;decide,kx H1 (.inl ()) X1 T1⟩
def ku (Pt C:Addr):Sp:=λvs H Q E=>∃(p:Addr) (xs:List V) (rs:List Rch) (l:Int),vs=[.ref p,.int l]/\H p=some (.lst xs)/\jN H xs rs/\x4 rs/\rs.length<=60/\(∀r∈rs,r.2.length<=100)/\qm H Pt /\
 (∀t H' ws (i:Nat),l=i->i<ws.length->jQ rs ws->H t=none->H' t=some (.lst ((ja rs (ws.getD i [])).map V.int))->Ext Pt H H'->qm H' Pt->Q (.ref t) H')/\∀H',(l<0\/((jm rs).length:Int)<=l)->Ext Pt H H'->qm H' Pt->E (.ref C) none H'
theorem JV:FnScope ["reaches","lane"] ["reaches","lane"] (j8 yn):=by walk_at "s"
theorem Uf {rs:List Rch}{ws:List (List Int)}(L:x4 rs) (h:jQ rs ws) {a:Nat}(ha:a<ws.length):(∀r∈ws.getD a [],0<=r/\r<rs.length)/\(ws.getD a []).length<=rs.length:=by
 rw [ak,aa ha]
 obtain ⟨x,hx,e⟩:=h.mem (bH ha)
 show (∀r∈ws[a],_)/\ws[a].length<=_
 rw [e]
 exact ⟨xy L x (xf hx),by have:=vF L x (xf hx);have:=xf hx;omega⟩
theorem uR {l:List Int}{j:Nat}{v:V}(h:(l.map V.int)[j]? = some v):∃x,v = .int x/\l[j]? = some x:=by
 rw [ar] at h
 cases e:l[j]? with
 | none=>rw [e] at h;cases h
 | some y=>rw [e] at h;cases h;exact ⟨y,rfl,rfl⟩
theorem JM {H H':Hp}{Pt a:Addr}(T:qm H Pt) (e:Ext Pt H H') (T':qm H' Pt) (n:H' a=none):H a=none:=by
 cases q:H a with
 | none=>rfl
 | some o =>
  by_cases z:a=Pt
  ·obtain ⟨ps,h⟩:=T'.ne
   rw [z,h] at n
   cases n
  ·have:=e _ _ q z
   rw [n] at this
   cases this
theorem Qg {f Pt C:Addr}{fd:FuncData}(nb:Nb2 mg) (c_way_of:CalX P w K mg base 6 "way_of" ["reaches","lane"] (X0 Pt C)) (F:Fun K "heights" "heights" yn f fd):FnOk P w K mg base (CX1 P w) 7 f fd ["reaches","lane"] (ku Pt C):=by
 refine Fun.okX F JV (λvs H Q E h=>?_) (λcdv A outer s H vs Q E hr h=>?_)
 ·obtain ⟨p,xs,rs,l,rfl,_⟩:=h
  rfl
 ·obtain ⟨p,xs,rs,l,rfl,hp,hrw,L,h60,h100,hT,k,kx⟩:=h
  refine ⟨_,(j9 (jj (Zz (osc:=(j8 yn)) (ON:=["reaches","lane"]) (N:=["reach","height","reaches"]) (own:=2) (caps:=[0]) ⟨rfl,∅,∅,∅,rfl,∅⟩ rfl rfl rfl (vi K (xw c_way_of (hr.mono ⋯) qt rfl (j0 (pv 0) (j0 (pv 1) j2)))) (λ_ _ _ _ _=>(jc (i:=0) (show bj (["reach","height","reaches"]:List Str) by decide +kernel) rfl (aS rfl))) (λ_ _ _ _ _=>jF) (λ_ _ _ _ _=>(vi K (jp (qo K) (jp (jb K) (pv 2) (pv 0) (λ_ _=>rfl)) j6 (λ_ _=>rfl)))) (λ_ _ _ _ _=>(jc (i:=1) (show bj (["reach","height","reaches"]:List Str) by decide +kernel) rfl (aS rfl))) (λ_ _ _ _ _=>jF) (λ_ _ _ _ _=>(pv 1))))),?_⟩
  obtain ⟨ps,hPt⟩:=hT.ne
  walk_at "r"
  refine ⟨p,xs,rs,l,rfl,hp,hrw,L,h60,hT,λt H1 ws i ei hi hR ht1 X1 T1=>?_,λH1 hbad X1 T1=>kx H1 hbad X1 T1⟩
  have hp1:=X1 _ _ hp (jh hp hPt (by walk_at "z"))
  have hrw1:jN H1 xs rs:=hrw.keep (ji.tbl X1 hPt)
  obtain ⟨inw,lenw⟩:=Uf L hR hi
  have kk:=λt H'=>k t H' ws i ei hi hR
  generalize ws.getD i []=way at *
  walk_at "r"
  refine ⟨⟨_,SqT.of ht1⟩,λacc hacc=>?_⟩
  refine Xx (K:=K) (a:=t) (xs:=way.map V.int) (acc:=acc) (λj σ H2=>∃x y:Option V,σ=[x,y,some (.ref p)]/\H2 acc=some (.lst ((ja rs (way.take j)).map V.int))/\Ext acc H1 H2) ?_ ?_ ?_ ?_
  ·exact ⟨none,none,rfl,j7,Ext.put⟩
  ·rintro j σ H2 hj ⟨x,y,rfl,h3,e3⟩
   exact SqT.of (e3 _ _ ht1 (j1 ht1 hacc))
  ·rintro j v σ H2 hv ⟨x,y,rfl,h3,e3⟩
   obtain ⟨r,rfl,hr'⟩:=uR hv
   have hin:=inw r (au hr')
   have hri:r.toNat<rs.length:=()
   obtain ⟨v,hv2,q,g,rfl,hq1,hg1⟩:=hrw1.at (aa hri)
   have hp2:=e3 _ _ hp1 (j1 hp1 hacc)
   have hq:=e3 _ _ hq1 (j1 hq1 hacc)
   have gl:=vP h100 (way.take j)
   have jl:(way.take j).length<=60:=by rw [aW];omega
   have hsn:=uj rs way j r hr'
   have ehs:zo rs r.toNat=(rs[r.toNat]'hri).2:=by
    unfold zo
    rw [ak,aa hri]
    rfl
   have hl100:=h100 _ (bH hri)
   rw [ehs] at hsn
   generalize (rs[r.toNat]'hri).2=hs at hg1 hsn hl100
   walk_at "r"
   refine ⟨_,_,_,_,rfl,rfl,SqL.of hp2,(by rw [show r=((r.toNat:Nat):Int) by omega];exact xW hv2),?_⟩
   refine ⟨_,_,_,_,rfl,rfl,SqT.of hq,rfl,?_⟩
   refine ⟨g,rfl,⟨_,SqT.of (e3 _ _ hg1 (j1 hg1 hacc))⟩,?_⟩
   refine U7 (K:=K) (a:=g) (acc:=acc) (xs:=hs.map V.int) (λn σ H4=>∃y:Option V,σ=[some (.int r),y,some (.ref p)]/\H4 acc=some (.lst ((ja rs (way.take j)++hs.take n).map V.int))/\Ext acc H1 H4) ?_ ?_ ?_ ?_
   ·exact ⟨y,rfl,by rw [oq,br];exact h3,e3⟩
   ·rintro n σ H4 hn ⟨y,rfl,h4,e4⟩
    exact SqT.of (e4 _ _ hg1 (j1 hg1 hacc))
   ·rintro n v σ H4 hv4 ⟨y,rfl,h4,e4⟩
    obtain ⟨h,rfl,hh⟩:=uR hv4
    have hnl:=(List.getElem?_eq_some_iff.mp hh).1
    walk_at "r"
    refine ⟨_,h4,by rw [af,av,aW];exact aM (show _<10000 by omega) ⋯,some (.int h),rfl,?_,e4.trans Ext.put⟩
    rw [j7,c8,hh,fV,<- dv,aE (l₁:=ja rs (way.take j)++hs.take n)]
    rfl
   ·rintro σ H4 ⟨y,rfl,h4,e4⟩
    rw [af,bb,<- hsn] at h4
    exact ⟨_,_,rfl,h4,e4⟩
  ·rintro σ H2 ⟨x,y,rfl,h3,e3⟩
   rw [af,bb] at h3
   exact kk acc H2 (JM hT X1 T1 hacc) h3 (λc o hc n=>e3 _ _ (X1 _ _ hc n) (λz=>by rw [z,JM hT X1 T1 hacc] at hc;cases hc)) (T1.extN hacc e3)
def ux (va cy sl ye le:Addr):List (Str×V):=jk "leaps" (.ref le) (jk "years" (.ref ye) (jk "slopes" (.ref sl) (jk "cycle" (.ref cy) (jk "valley" (.ref va) []))))
theorem wj (va cy sl ye le:Addr):(ux va cy sl ye le).lookup ("cycle" : Str)=some (.ref cy):=by
 unfold ux
 rw [jv,if_neg ∅,jv,if_neg ∅,jv,if_neg ∅,jv,if_pos rfl]
theorem zc (va cy sl ye le:Addr):(ux va cy sl ye le).lookup ("slopes" : Str)=some (.ref sl):=by
 unfold ux
 rw [jv,if_neg ∅,jv,if_neg ∅,jv,if_pos rfl]
theorem wI (va cy sl ye le:Addr):(ux va cy sl ye le).lookup ("years" : Str)=some (.ref ye):=by
 unfold ux
 rw [jv,if_neg ∅,jv,if_pos rfl]
theorem yI (va cy sl ye le:Addr):(ux va cy sl ye le).lookup ("leaps" : Str)=some (.ref le):=by
 unfold ux
 rw [jv,if_pos rfl]
theorem YB (va cy sl ye le:Addr) {m:Str}(h1:¬m = "leaps") (h2:¬m = "years") (h3:¬m = "slopes") (h4:¬m = "cycle") (h5:¬m = "valley"):(ux va cy sl ye le).lookup m=none:=by
 unfold ux
 rw [jv,if_neg h1,jv,if_neg h2,jv,if_neg h3,jv,if_neg h4,jv,if_neg h5]
 rfl
theorem qz {va cy sl ye le:Addr}{m:Str}(h:(¬m="leaps")/\(¬m="years")/\(¬m="slopes")/\(¬m="cycle")/\¬m="valley"):(ux va cy sl ye le).lookup m=none:=YB _ _ _ _ _ h.1 h.2.1 h.2.2.1 h.2.2.2.1 h.2.2.2.2
structure IceC (K:ai) (C:Addr):Prop where
 cl:Cls K C
 nV:xK K C "valley"
 nC:xK K C "cycle"
 nS:xK K C "slopes"
 nY:xK K C "years"
 nL:xK K C "leaps"
structure IceG where
 dx:Addr
 va:Addr
 cy:Addr
 sl:Addr
 ye:Addr
 le:Addr
 xs:List V
 ys:List V
 zs:List V
 lds:List (Addr×List (Key×V))
 kvs:List (Key×V)
 rs:List Rch
 rows:List T3
 slopes:List (List Int)
structure IceAt (C:Addr) (H:Hp) (p:Addr) (g:IceG):Prop where
 ob:H p=some (.ins C g.dx (ux g.va g.cy g.sl g.ye g.le))
 va:H g.va=some (.lst g.xs)
 rs:jN H g.xs g.rs
 cy:H g.cy=some (.lst g.ys)
 rows:qh H g.ys g.rows
 sl:H g.sl=some (.lst g.zs)
 slopes:zN H g.zs g.slopes
 ye:H g.ye=some (.dK g.kvs)
 le:H g.le=some (.lst (g.lds.map λx=>V.ref x.1))
 lds:∀x∈g.lds,H x.1=some (.dK x.2)
theorem IceAt.same {C:Addr}{H H':Hp}{p:Addr}{g:IceG}(I:IceAt C H p g) (s:jn H H'):IceAt C H' p g :=
 ⟨s _ _ I.ob,s _ _ I.va,I.rs.keep (ji.same s),s _ _ I.cy,I.rows.imp λ_ _ q=>s _ _ q,s _ _ I.sl,Paired.mapP I.slopes λ_ _ ⟨a,e,q⟩=>⟨a,e,s _ _ q⟩,s _ _ I.ye,s _ _ I.le,λx hx=>s _ _ (I.lds x hx)⟩
theorem gv {C:Addr}{H:Hp}{p:Addr}{g:IceG}(I:IceAt C H p g) {l:Int}(h0:0<=l) (h1:l<(g.slopes.length:Int)):∃a,atI g.zs l=some (.ref a)/\H a=some (.lst ((g.slopes.getD l.toNat []).map V.int)):=by
 have hz:g.zs.length=g.slopes.length:=aP I.slopes
 have hi:l.toNat<g.zs.length:=()
 obtain ⟨w,hw,a,e,ha⟩:=Paired.get I.slopes (aa hi)
 refine ⟨a,?_,?_⟩
 ·rw [show l=((l.toNat:Nat):Int) by omega]
  refine xW ?_
  rw [aa hi,e]
 ·rw [ha,ak,hw]
  rfl
theorem Vv {l:List Int}{n:Nat}(h:n<l.length):(l.map V.int)[n]? = some (V.int (l.getD n 0)):=by
 rw [ar,ak,aa h]
 rfl
def xE (C CN:Addr):Sp:=λvs H Q E=>∃(p:Addr) (g:IceG) (l:Int),vs=[.ref p,.int l]/\IceAt C H p g/\(0<=l->l<(g.slopes.length:Int)->Q .non H)/\(l<0\/(g.slopes.length:Int)<=l->E (.ref CN) none H)
theorem yM:FnScope ["self","lane"] ["self","lane"] (j8 xj):=by walk_at "s"
theorem yF {f C CN:Addr}{fd:FuncData}(nb:Nb2 mg) (T:IceC K C) (e_NoLane:mg "NoLane" = some (.ref CN)) (x_NoLane:cI K CN [.type "ValueError",.type "Exception",.type "BaseException",.type "object"] "ValueError.__new__" = true) (F:Fun K "check_lane" "Ice.check_lane" xj f fd):FnOk P w K mg base (CX1 P w) 1 f fd ["self","lane"] (xE C CN):=by
 refine Fun.okX F yM (λvs H Q E h=>?_) (λcdv A outer s H vs Q E hr h=>?_)
 ·obtain ⟨p,g,l,rfl,_⟩:=h
  rfl
 ·obtain ⟨p,g,l,rfl,I,k,kx⟩:=h
  have hz:g.zs.length=g.slopes.length:=aP I.slopes
  refine ⟨_,(j9 (qj (qT (x5 qq yw j6 (pv 1) (jg (jf K) rfl nb.b_len aT (j0 (qY K (pv 0)) j2)))) (j9 (xl bo x_NoLane e_NoLane rfl xH rfl (j0 jw j2))) jD)),?_⟩
  walk_at "r"
  refine qS (λh0=>?_) (λh0=>?_)
  ·walk_at "r"
   refine ⟨p,C,g.dx,_,_,rfl,I.ob,T.cl,T.nS,zc _ _ _ _ _,?_⟩
   walk_at "r"
   refine ⟨_,_,rfl,.inl (SqL.of I.sl),?_⟩
   rw [hz]
   walk_at "r"
   refine zy (λh1=>?_) (λh1=>?_)
   ·walk_at "r"
    exact ⟨by show 1<=sizeLine;decide,kx (.inr ())⟩
   ·walk_at "r"
    exact k h0 h1
  ·walk_at "r"
   refine wL ?_
   walk_at "r"
   exact ⟨by show 1<=sizeLine;decide,kx (.inl ())⟩
def zF (C CN CP:Addr):Sp:=λvs H Q E=>∃(p:Addr) (g:IceG) (l n:Int),vs=[.ref p,.int l,.int n]/\IceAt C H p g/\(0<=l->l<(g.slopes.length:Int)->0<=n->n<((g.slopes.getD l.toNat []).length:Int)->Q .non H) /\
 (l<0\/(g.slopes.length:Int)<=l->E (.ref CN) none H)/\(0<=l->l<(g.slopes.length:Int)->(n<0\/((g.slopes.getD l.toNat []).length:Int)<=n)->E (.ref CP) none H)
theorem yt:FnScope ["self","lane","place"] ["self","lane","place"] (j8 x0):=by walk_at "s"
theorem yr {f C CN CP:Addr}{fd:FuncData}(nb:Nb2 mg) (T:IceC K C) (e_NoPlace:mg "NoPlace" = some (.ref CP)) (x_NoPlace:cI K CP [.type "ValueError",.type "Exception",.type "BaseException",.type "object"] "ValueError.__new__" = true) (cl_Ice:Cls K C) (c_Ice__check_lane:CalMX P w K mg base 1 C "check_lane" ["self","lane"] (xE C CN)) (F:Fun K "check_place" "Ice.check_place" x0 f fd):FnOk P w K mg base (CX1 P w) 2 f fd ["self","lane","place"] (zF C CN CP):=by
 refine Fun.okX F yt (λvs H Q E h=>?_) (λcdv A outer s H vs Q E hr h=>?_)
 ·obtain ⟨p,g,l,n,rfl,_⟩:=h
  rfl
 ·obtain ⟨p,g,l,n,rfl,I,k,kx,ky⟩:=h
  refine ⟨_,(j4 (jU (zp (pv 0) cl_Ice c_Ice__check_lane (hr.mono ⋯) qt (j0 (pv 1) j2)))
   (j9 (qj (qT (x5 qq yw j6 (pv 2) (jg (jf K) rfl nb.b_len aT (j0 (jp (jb K) (qY K (pv 0)) (pv 1) (λ_ _=>rfl)) j2)))) (j9 (xl bo x_NoPlace e_NoPlace rfl xH rfl (j0 jw j2))) jD))),?_⟩
  walk_at "r"
  refine ⟨p,g.dx,_,rfl,I.ob,qz ∅,?_⟩
  walk_at "r"
  refine ⟨p,g,l,rfl,I,λl0 l1=>?_,λhb=>kx hb⟩
  obtain ⟨a,ha,hla⟩:=gv I l0 l1
  walk_at "r"
  refine qS (λh0=>?_) (λh0=>?_)
  ·walk_at "r"
   refine ⟨p,C,g.dx,_,_,rfl,I.ob,T.cl,T.nS,zc _ _ _ _ _,?_⟩
   walk_at "r"
   refine ⟨_,_,_,_,rfl,rfl,SqL.of I.sl,ha,?_⟩
   walk_at "r"
   refine ⟨_,_,rfl,.inl (SqL.of hla),?_⟩
   rw [af]
   walk_at "r"
   refine zy (λh1=>?_) (λh1=>?_)
   ·walk_at "r"
    exact ⟨by show 1<=sizeLine;decide,ky l0 l1 (.inr ())⟩
   ·walk_at "r"
    exact k l0 l1 h0 h1
  ·walk_at "r"
   refine wL ?_
   walk_at "r"
   exact ⟨by show 1<=sizeLine;decide,ky l0 l1 (.inl ())⟩
def kG (C CN:Addr):Sp:=λvs H Q E=>∃(p:Addr) (g:IceG) (l:Int),vs=[.ref p,.int l]/\IceAt C H p g/\(0<=l->l<(g.slopes.length:Int)->Q (.int ((g.slopes.getD l.toNat []).length:Int)) H)/\(l<0\/(g.slopes.length:Int)<=l->E (.ref CN) none H)
theorem uD:FnScope ["self","lane"] ["self","lane"] (j8 zg):=by walk_at "s"
theorem wF {f C CN:Addr}{fd:FuncData}(nb:Nb2 mg) (T:IceC K C) (cl_Ice:Cls K C) (c_Ice__check_lane:CalMX P w K mg base 1 C "check_lane" ["self","lane"] (xE C CN)) (F:Fun K "length" "Ice.length" zg f fd):FnOk P w K mg base (CX1 P w) 2 f fd ["self","lane"] (kG C CN):=by
 refine Fun.okX F uD (λvs H Q E h=>?_) (λcdv A outer s H vs Q E hr h=>?_)
 ·obtain ⟨p,g,l,rfl,_⟩:=h
  rfl
 ·obtain ⟨p,g,l,rfl,I,k,kx⟩:=h
  refine ⟨_,(j4 (jU (zp (pv 0) cl_Ice c_Ice__check_lane (hr.mono ⋯) qt (j0 (pv 1) j2)))
   (j9 (jj (jg (jf K) rfl nb.b_len aT (j0 (jp (jb K) (qY K (pv 0)) (pv 1) (λ_ _=>rfl)) j2))))),?_⟩
  walk_at "r"
  refine ⟨p,g.dx,_,rfl,I.ob,qz ∅,?_⟩
  walk_at "r"
  refine ⟨p,g,l,rfl,I,λl0 l1=>?_,λhb=>kx hb⟩
  obtain ⟨a,ha,hla⟩:=gv I l0 l1
  walk_at "r"
  refine ⟨p,C,g.dx,_,_,rfl,I.ob,T.cl,T.nS,zc _ _ _ _ _,?_⟩
  walk_at "r"
  refine ⟨_,_,_,_,rfl,rfl,SqL.of I.sl,ha,?_⟩
  walk_at "r"
  refine ⟨_,_,rfl,.inl (SqL.of hla),?_⟩
  rw [af]
  exact k l0 l1
def kj (C CN CP:Addr):Sp:=λvs H Q E=>∃(p:Addr) (g:IceG) (l n:Int),vs=[.ref p,.int l,.int n]/\IceAt C H p g/\(0<=l->l<(g.slopes.length:Int)->0<=n->n<((g.slopes.getD l.toNat []).length:Int)->Q (.int ((g.slopes.getD l.toNat []).getD n.toNat 0)) H) /\
 (l<0\/(g.slopes.length:Int)<=l->E (.ref CN) none H)/\(0<=l->l<(g.slopes.length:Int)->(n<0\/((g.slopes.getD l.toNat []).length:Int)<=n)->E (.ref CP) none H)
theorem uE:FnScope ["self","lane","place"] ["self","lane","place"] (j8 zf):=by walk_at "s"
theorem uG {f C CN CP:Addr}{fd:FuncData}(nb:Nb2 mg) (T:IceC K C) (cl_Ice:Cls K C) (c_Ice__check_place:CalMX P w K mg base 2 C "check_place" ["self","lane","place"] (zF C CN CP)) (F:Fun K "height" "Ice.height" zf f fd):FnOk P w K mg base (CX1 P w) 3 f fd ["self","lane","place"] (kj C CN CP):=by
 refine Fun.okX F uE (λvs H Q E h=>?_) (λcdv A outer s H vs Q E hr h=>?_)
 ·obtain ⟨p,g,l,n,rfl,_⟩:=h
  rfl
 ·obtain ⟨p,g,l,n,rfl,I,k,kx,ky⟩:=h
  refine ⟨_,(j4 (jU (zp (pv 0) cl_Ice c_Ice__check_place (hr.mono ⋯) qt (j0 (pv 1) (j0 (pv 2) j2))))
   (j9 (jj (jp (jb K) (jp (jb K) (qY K (pv 0)) (pv 1) (λ_ _=>rfl)) (pv 2) (λ_ _=>rfl))))),?_⟩
  walk_at "r"
  refine ⟨p,g.dx,_,rfl,I.ob,qz ∅,?_⟩
  walk_at "r"
  refine ⟨p,g,l,n,rfl,I,λl0 l1 n0 n1=>?_,λhb=>kx hb,λl0 l1 hb=>ky l0 l1 hb⟩
  obtain ⟨a,ha,hla⟩:=gv I l0 l1
  walk_at "r"
  refine ⟨p,C,g.dx,_,_,rfl,I.ob,T.cl,T.nS,zc _ _ _ _ _,?_⟩
  walk_at "r"
  refine ⟨_,_,_,_,rfl,rfl,SqL.of I.sl,ha,?_⟩
  walk_at "r"
  refine ⟨_,_,_,_,rfl,rfl,SqL.of hla,(by rw [show n=((n.toNat:Nat):Int) by omega];exact xW (Vv ())),?_⟩
  exact k l0 l1 n0 n1
def vD (CR:Addr):Sp:=λvs H Q E=>∃(p:Addr) (xs:List V) (ts:List T3),vs=[.ref p]/\H p=some (.lst xs)/\qh H xs ts/\ts.length<=1000/\(∀H',gr ts=true->jn H H'->Q .non H')/\∀H',gr ts=false->jn H H'->E (.ref CR) none H'
theorem wk:FnScope ["rows"] ["rows"] (j8 zn):=by walk_at "s"
theorem wa {f CR:Addr}{fd:FuncData}(nb:Nb2 mg) (e_BadRound:mg "BadRound" = some (.ref CR)) (x_BadRound:cI K CR [.type "ValueError",.type "Exception",.type "BaseException",.type "object"] "ValueError.__new__" = true) (c_is_round:Cal P w K mg base 2 "is_round" ["rows"] (QX K)) (F:Fun K "check_round" "check_round" zn f fd):FnOk P w K mg base (CX1 P w) 3 f fd ["rows"] (vD CR):=by
 refine Fun.okX F wk (λvs H Q E h=>?_) (λcdv A outer s H vs Q E hr h=>?_)
 ·obtain ⟨p,xs,ts,rfl,_⟩:=h
  rfl
 ·obtain ⟨p,xs,ts,rfl,hp,hr3,h1000,k,kx⟩:=h
  refine ⟨_,(j9 (qj (qT (yN (jd c_is_round (hr.mono ⋯) rfl (j0 (pv 0) j2)))) (j9 (xl bo x_BadRound e_BadRound rfl xH rfl (j0 jw j2))) jD)),?_⟩
  walk_at "r"
  refine ⟨p,xs,ts,rfl,hp,hr3,h1000,λH1 s1=>?_⟩
  cases e:gr ts with
  | true =>
   walk_at "r"
   exact k H1 e s1
  | false =>
   walk_at "r"
   exact ⟨by show 1<=sizeLine;decide,kx H1 e s1⟩
def Kp (p Pt:Addr) (H H':Hp):Prop:=∀c o,H c=some o->c≠p->c≠Pt->H' c=some o
theorem Kp.trans {p Pt:Addr}{H H1 H2:Hp}(a:Kp p Pt H H1) (b:Kp p Pt H1 H2):Kp p Pt H H2:=λc o h n m=>b c o (a c o h n m) n m
theorem Kp.of_same {p Pt:Addr}{H H':Hp}(s:jn H H'):Kp p Pt H H':=λc o h _ _=>s c o h
theorem Kp.of_ext {p Pt:Addr}{H H':Hp}(s:Ext Pt H H'):Kp p Pt H H':=λc o h _ m=>s c o h m
theorem Kp.put {p Pt:Addr}{H:Hp}{o:HO}:Kp p Pt H (upd H p o):=λc _ h n _=>by rw [j5 n];exact h
theorem Kp.at {p Pt a:Addr}{H H':Hp}{o u:HO}{ps:Array ae}(k:Kp p Pt H H') (h:H a=some o) (hp:H p=some u) (hPt:H Pt=some (.tbl ps)) (n:o≠u) (m:o≠.tbl ps):H' a=some o:=k _ _ h (jh h hp n) (jh h hPt m)
theorem Kp.free {p Pt a:Addr}{H H':Hp}{u u':HO}(k:Kp p Pt H H') (h:H' a=none) (hp:H' p=some u) (hPt:H' Pt=some u'):H a=none:=by
 cases e:H a with
 | none=>rfl
 | some o =>
  have:=k a o e (λz=>by rw [z,hp] at h;cases h) (λz=>by rw [z,hPt] at h;cases h)
  rw [h] at this
  cases this
theorem vd {H:Hp}{Pt p C dx:Addr}{fs:List (Str×V)}{o:HO}(T:qm H Pt) (hp:H p=some (.ins C dx fs)):qm (upd H p o) Pt:=by
 rcases T with h | ⟨c,h,h'⟩
 ·exact .inl (by rw [j5 (jh h hp (by walk_at "z"))];exact h)
 ·exact .inr ⟨c,by rw [j5 (jh h hp (by walk_at "z"))];exact h,by rw [j5 (jh h' hp (by walk_at "z"))];exact h'⟩
theorem ji.kp {p Pt C dx:Addr}{H H':Hp}{fs:List (Str×V)}{ps:Array ae}(k:Kp p Pt H H') (hp:H p=some (.ins C dx fs)) (hPt:H Pt=some (.tbl ps)):ji H H':=λ_ _ h=>k.at h hp hPt (by walk_at "z") (by walk_at "z")
theorem pm {α β:Type}{F:α->β->Prop}:∀{l₁:List α}{l₂:List β},cf F l₁ l₂->∀v∈l₁,∃w,F v w
 | _,_,.nil,v,h=>by cases h
 | _,_,.cons q r,v,h=>by
  rcases List.mem_cons.mp h with rfl | z
  ·exact ⟨_,q⟩
  ·exact pm r v z
theorem pmE {H H0:Hp}{a0:Addr}{zs:List V}{rows:List (List Int)}(r:cf (λv (w:List Int)=>∃a,v=V.ref a/\H a=some (.lst (w.map V.int))/\H0 a=none/\a≠a0) zs rows):∀a,V.ref a∈zs->H0 a=none/\a≠a0:=λa h=>by
 obtain ⟨w,b,e,_,z⟩:=pm r _ h
 cases e
 exact z
structure IceNew (C Pt:Addr) (H H':Hp) (p:Addr) (g:IceG):Prop where
 at_:IceAt C H' p g
 keep:∀c o,H c=some o->c≠p->c≠Pt->H' c=some o
 va:H g.va=none
 cy:H g.cy=none
 sl:H g.sl=none
 ye:H g.ye=none
 le:H g.le=none
 zs:∀a,V.ref a∈g.zs->H a=none
 kvs:g.kvs=[]
 lds:∀x∈g.lds,H x.1=none/\x.2=[]
 ll:g.lds.length=g.slopes.length
 nd:(g.lds.map (·.1)).Nodup
 ny:∀x∈g.lds,x.1≠g.ye
 sl2:∃ws,jQ g.rs ws/\g.slopes=ws.map (ja g.rs)
def Zo (C CV CR Pt:Addr):Sp:=λvs H Q E=>∃(p dx r q:Addr) (xs ys:List V) (rs:List Rch) (ts:List T3),vs=[.ref p,.ref r,.ref q]/\H p=some (.ins C dx [])/\H r=some (.lst xs)/\jN H xs rs/\H q=some (.lst ys)/\qh H ys ts/\(∀r∈rs,r.2.length<=100)/\rs.length<=60/\ts.length<=1000/\qm H Pt /\
 (∀H' g,xZ rs=true->gr ts=true->IceNew C Pt H H' p g->g.rs=rs->g.rows=ts->g.xs=xs->g.ys=ys->qm H' Pt->Q .non H') /\
 (∀H',xZ rs=false->Ext Pt H H'->qm H' Pt->E (.ref CV) none H')/\(∀H',xZ rs=true->gr ts=false->Ext Pt H H'->qm H' Pt->E (.ref CR) none H')
theorem vO:FnScope ["self","reaches","rows"] ["self","reaches","rows"] (j8 qu):=by walk_at "s"
theorem vL {f C CV CR CN Pt:Addr}{fd:FuncData}(nb:Nb2 mg) (T:IceC K C) (e_BadValley:mg "BadValley" = some (.ref CV)) (x_BadValley:cI K CV [.type "ValueError",.type "Exception",.type "BaseException",.type "object"] "ValueError.__new__" = true)
  (c_is_valley:Cal P w K mg base 6 "is_valley" ["reaches"] (Jk K Pt)) (c_check_round:CalX P w K mg base 3 "check_round" ["rows"] (vD CR)) (c_lanes:Cal P w K mg base 5 "lanes" ["reaches"] (vf K Pt)) (c_heights:Cal P w K mg base 7 "heights" ["reaches","lane"] (λvs H Q _=>ku Pt CN vs H Q E0))
  (F:Fun K "__init__" "Ice.__init__" qu f fd):FnOk P w K mg base (CX1 P w) 8 f fd ["self","reaches","rows"] (Zo C CV CR Pt):=by
 refine Fun.okX F vO (λvs H Q E h=>?_) (λcdv A outer s H vs Q E hr h=>?_)
 ·obtain ⟨p,dx,r,q,xs,ys,rs,ts,rfl,_⟩:=h
  rfl
 ·obtain ⟨p,dx,r,q,xs,ys,rs,ts,rfl,hp,hr',hrw,hq,hr3,h100,h60,h1000,hT,k,kv,kr⟩:=h
  obtain ⟨ps,hPt⟩:=hT.ne
  refine ⟨_,(j4 (qj (qT (yN (jd c_is_valley (hr.mono ⋯) rfl (j0 (pv 1) j2)))) (j9 (xl bo x_BadValley e_BadValley rfl xH rfl (j0 jw j2))) jD)
   (j4 (jU (xw c_check_round (hr.mono ⋯) qt rfl (j0 (pv 2) j2)))
   (j4 (yY K (pv 0) (jT (qp K) rfl nb.b_list bR (j0 (pv 1) j2)))
   (j4 (yY K (pv 0) (jT (qp K) rfl nb.b_list bR (j0 (pv 2) j2)))
   (j4 (yY K (pv 0) (jX (osc:=(j8 qu)) (ON:=["self","reaches","rows"]) (N:=["lane","reaches"]) (own:=1) (caps:=[1]) ⟨rfl,∅,∅,∅,rfl,∅⟩ rfl rfl rfl (qw rfl nb.b_range (j0 (jg (jf K) rfl nb.b_len aT (j0 (jd c_lanes (hr.mono ⋯) rfl (j0 (pv 1) j2)) j2)) j2)) (λ_ _ _ _ _=>(jc (i:=0) (show bj (["lane","reaches"]:List Str) by decide +kernel) rfl (aS rfl))) (λ_ _ _ _ _=>jF) (λ_ _ _ _ _=>(jd c_heights (hr.mono ⋯) rfl (j0 (pv 1) (j0 (pv 0) j2))))))
   (j4 (yY K (pv 0) vG)
   (j9 (yY K (pv 0) (jX (osc:=(j8 qu)) (ON:=["self","reaches","rows"]) (N:=["slope"]) (own:=1) (caps:=[]) ⟨rfl,∅,∅,∅,rfl,∅⟩ rfl rfl rfl (jW K (qY K (pv 0))) (λ_ _ _ _ _=>(jc (i:=0) (show bj (["slope"]:List Str) by decide +kernel) rfl (aS rfl))) (λ_ _ _ _ _=>jF) (λ_ _ _ _ _=>vG)))))))))),?_⟩
  walk_at "r"
  refine ⟨r,xs,rs,rfl,hr',hrw,h100,h60,hT,λH1 X1 T1=>?_⟩
  cases eg:xZ rs with
  | false =>
   walk_at "r"
   exact ⟨by show 1<=sizeLine;decide,kv H1 eg X1 T1⟩
  | true =>
   have X1':∀{a:Addr} {o:HO},H a=some o->(∀ps,o≠.tbl ps)->H1 a=some o:=λ{a o} h n=>X1 _ _ h (jh h hPt (n _))
   have hp1:=X1' hp (by walk_at "w")
   have hr1:=X1' hr' (by walk_at "w")
   have hq1:=X1' hq (by walk_at "w")
   have hrw1:jN H1 xs rs:=hrw.keep (ji.tbl X1 hPt)
   have hr31:qh H1 ys ts:=hr3.imp λa t e=>X1' e (by walk_at "w")
   walk_at "r"
   refine ⟨q,ys,ts,rfl,hq1,hr31,h1000,λH2 egr s2=>?_,λH2 egr s2=>kr H2 eg egr (X1.trans (Ext.of_same s2)) (T1.same s2)⟩
   have L:x4 rs:=jV (by unfold xZ at eg;rw [bh,bh] at eg;exact eg.2.1)
   have k2:Kp p Pt H H2:=(Kp.of_ext X1).trans (Kp.of_same s2)
   have hp2:=s2 _ _ hp1
   have T2:=T1.same s2
   walk_at "r"
   refine ⟨_,_,rfl,.inl (SqL.of (s2 _ _ hr1)),λva H3 va2 va3 s3=>?_⟩
   have hp3:=s3 _ _ hp2
   have T3':=T2.same s3
   have k3:=k2.trans (Kp.of_same s3)
   obtain ⟨_,hPt2⟩:=T2.ne
   have va0:=k2.free va2 hp2 hPt2
   walk_at "r"
   refine ⟨p,C,dx,_,rfl,hp3,T.cl,T.nV,⋯,?_⟩
   have Ta:qm (upd H3 p (HO.ins C dx (jk "valley" (V.ref va) []))) Pt:=vd T3' hp3
   have ka:=k3.trans (Kp.put (p:=p) (Pt:=Pt) (o:=HO.ins C dx (jk "valley" (V.ref va) [])))
   have pa:upd H3 p (HO.ins C dx (jk "valley" (V.ref va) [])) p=some (HO.ins C dx (jk "valley" (V.ref va) [])):=j7
   have vaa:upd H3 p (HO.ins C dx (jk "valley" (V.ref va) [])) va=some (HO.lst xs):=by rw [j5 (j1 hp2 va2).symm];exact va3
   clear k2 k3 hp1 hr1 hq1 hrw1 hr31 X1' X1 T1 s2 hp2 T2 s3 hp3 T3' va3 va2 hPt2
   generalize upd H3 p (HO.ins C dx (jk "valley" (V.ref va) []))=Ha at *
   obtain ⟨_,hPta⟩:=Ta.ne
   have vaP:va≠Pt:=jh vaa hPta (by walk_at "z")
   have vap:va≠p:=jh vaa pa (by walk_at "z")
   walk_at "r"
   refine ⟨_,_,rfl,.inl (SqL.of (ka.at hq hp hPt (by walk_at "z") (by walk_at "z"))),λcy H4 cya cy4 s4=>?_⟩
   have hp4:=s4 _ _ pa
   have T4:=Ta.same s4
   have cy0:=ka.free cya pa hPta
   walk_at "r"
   refine ⟨p,C,dx,_,rfl,hp4,T.cl,T.nC,bN (jL _ _ _) ⋯,?_⟩
   have kb:=(ka.trans (Kp.of_same s4)).trans (Kp.put (p:=p) (Pt:=Pt) (o:=HO.ins C dx (jk "cycle" (V.ref cy) (jk "valley" (V.ref va) []))))
   have Tb:qm (upd H4 p (HO.ins C dx (jk "cycle" (V.ref cy) (jk "valley" (V.ref va) [])))) Pt:=vd T4 hp4
   have pb:upd H4 p (HO.ins C dx (jk "cycle" (V.ref cy) (jk "valley" (V.ref va) []))) p=some (HO.ins C dx (jk "cycle" (V.ref cy) (jk "valley" (V.ref va) []))):=j7
   have vab:upd H4 p (HO.ins C dx (jk "cycle" (V.ref cy) (jk "valley" (V.ref va) []))) va=some (HO.lst xs):=by rw [j5 vap];exact s4 _ _ vaa
   have cyb:upd H4 p (HO.ins C dx (jk "cycle" (V.ref cy) (jk "valley" (V.ref va) []))) cy=some (HO.lst ys):=by rw [j5 (j1 pa cya).symm];exact cy4
   clear ka Ta pa vaa s4 hp4 T4 cya cy4 hPta
   generalize upd H4 p (HO.ins C dx (jk "cycle" (V.ref cy) (jk "valley" (V.ref va) [])))=Hb at *
   obtain ⟨_,hPtb⟩:=Tb.ne
   have cyP:cy≠Pt:=jh cyb hPtb (by walk_at "z")
   have cyp:cy≠p:=jh cyb pb (by walk_at "z")
   have pP:p≠Pt:=jh pb hPtb (by walk_at "z")
   walk_at "r"
   refine ⟨r,xs,rs,rfl,kb.at hr' hp hPt (by walk_at "z") (by walk_at "z"),hrw.keep (ji.kp kb hp hPt),L,h60,Tb,λo H5 out ws ho ho5 hw hR X5 T5=>?_⟩
   walk_at "r"
   refine ⟨_,_,rfl,.inl (SqL.of ho5),?_⟩
   have hlen:out.length=ws.length:=hw.length
   have hws:ws.length<=60:=by
    rw [hR.length]
    unfold jm
    exact aG (cj _ _) (by rw [bL];exact h60)
   refine ⟨(out.length:Int),rfl,(),(),λacc hacc=>?_⟩
   obtain ⟨_,hPt5⟩:=T5.ne
   have kb5:Kp p Pt H H5:=kb.trans (Kp.of_ext X5)
   have hp5:=X5 _ _ pb pP
   have va5:=X5 _ _ vab vaP
   have cy5:=X5 _ _ cyb cyP
   have hr5:H5 r=some (.lst xs):=kb5.at hr' hp hPt (by walk_at "z") (by walk_at "z")
   have hrw5:jN H5 xs rs:=hrw.keep (ji.kp kb5 hp hPt)
   have accP:Pt≠acc:=j1 hPt5 hacc
   refine xq (lo:=0) (n:=((out.length:Int)).toNat) (acc:=acc) (λi σ H6=>∃(x:Option V) (zs:List V),σ=[x,some (.ref r)]/\H6 acc=some (.lst zs)/\zs.length=i/\cf (λv (w:List Int)=>∃a,v=V.ref a/\H6 a=some (.lst (w.map V.int))/\H5 a=none/\a≠acc) zs ((ws.take i).map (ja rs))/\Kp acc Pt H5 H6/\qm H6 Pt) ?_ ?_ ?_
   ·exact ⟨none,[],rfl,j7,rfl,.nil,Kp.put,T5.extN hacc Ext.put⟩
   ·rintro i σ H6 hi ⟨x,zs,rfl,h6,hz,r6,k6,T6⟩
    obtain ⟨_,hPt6⟩:=T6.ne
    have iw:i<ws.length:=()
    walk_at "r"
    refine ⟨r,xs,rs,_,rfl,k6 _ _ hr5 (j1 hr5 hacc) (jh hr5 hPt5 (by walk_at "z")),hrw5.keep (λa o h=>k6 _ _ h (j1 h hacc) (jh h hPt5 (by walk_at "z"))),L,h60,h100,T6,λt H7 ws' i' ei hi' hR' ht ht7 X7 T7=>?_,λH' hb _ _=>?_⟩
    ·obtain rfl:=hR.unique hR'
     obtain rfl:i'=i:=()
     have h7:=X7 _ _ h6 accP.symm
     have ta:t≠acc:=(j1 h6 ht).symm
     have tP:t≠Pt:=(j1 hPt6 ht).symm
     refine ⟨zs,h7,je (),some (.int (0+(i':Int))),zs++[.ref t],rfl,j7,by rw [av,hz];rfl,?_,?_,?_⟩
     ·rw [qr (ja rs) ws i' (ws.getD i' []) (by rw [ak,aa iw];rfl)]
      refine cu (Paired.mapP r6 λv wy ⟨a,e,ha,h0,na⟩=>⟨a,e,?_,h0,na⟩) ⟨t,rfl,by rw [j5 ta];exact ht7,k6.free ht h6 hPt6,ta⟩
      rw [j5 na]
      exact X7 _ _ ha (jh ha hPt6 (by walk_at "z"))
     ·exact (k6.trans (Kp.of_ext X7)).trans Kp.put
     ·exact T7.ext h7 Ext.put
    ·have:=hR.length
     exact absurd hb ()
   ·rintro σ H6 ⟨x,zs,rfl,h6,hz,r6,k6,T6⟩
    rw [bK,hlen,bb] at r6
    have f6:=pmE r6
    have hp6:=k6 _ _ hp5 (j1 hp5 hacc) pP
    have kc:Kp p Pt H (upd H6 p (HO.ins C dx (jk "slopes" (V.ref acc) (jk "cycle" (V.ref cy) (jk "valley" (V.ref va) []))))):=λc o h n m=>by
     rw [j5 n]
     have:=kb5 c o h n m
     exact k6 _ _ this (j1 this hacc) m
    have acp:acc≠p:=(j1 hp5 hacc).symm
    have acc0:=kb5.free hacc hp5 hPt5
    have zs0:∀a,V.ref a∈zs->H a=none:=λa z=>kb5.free (f6 a z).1 hp5 hPt5
    walk_at "r"
    refine ⟨p,C,dx,_,rfl,hp6,T.cl,T.nS,bN (aG (jL _ _ _) (d8 (jL _ _ _))) ⋯,?_⟩
    have Tc:qm (upd H6 p (HO.ins C dx (jk "slopes" (V.ref acc) (jk "cycle" (V.ref cy) (jk "valley" (V.ref va) []))))) Pt:=vd T6 hp6
    have pc:upd H6 p (HO.ins C dx (jk "slopes" (V.ref acc) (jk "cycle" (V.ref cy) (jk "valley" (V.ref va) [])))) p=some (HO.ins C dx (jk "slopes" (V.ref acc) (jk "cycle" (V.ref cy) (jk "valley" (V.ref va) [])))):=j7
    have vac:upd H6 p (HO.ins C dx (jk "slopes" (V.ref acc) (jk "cycle" (V.ref cy) (jk "valley" (V.ref va) [])))) va=some (HO.lst xs):=by rw [j5 vap];exact k6 _ _ va5 (j1 va5 hacc) vaP
    have cyc:upd H6 p (HO.ins C dx (jk "slopes" (V.ref acc) (jk "cycle" (V.ref cy) (jk "valley" (V.ref va) [])))) cy=some (HO.lst ys):=by rw [j5 cyp];exact k6 _ _ cy5 (j1 cy5 hacc) cyP
    have slc:upd H6 p (HO.ins C dx (jk "slopes" (V.ref acc) (jk "cycle" (V.ref cy) (jk "valley" (V.ref va) [])))) acc=some (HO.lst zs):=by rw [j5 acp];exact h6
    have slsc:zN (upd H6 p (HO.ins C dx (jk "slopes" (V.ref acc) (jk "cycle" (V.ref cy) (jk "valley" (V.ref va) []))))) zs (ws.map (ja rs)):=Paired.mapP r6 λv wy ⟨a,e,ha,h0,na⟩=>⟨a,e,by rw [j5 (j1 hp5 h0).symm];exact ha⟩
    clear r6 f6 k6 T6 h6 hp6 kb5 hp5 va5 cy5 hr5 hrw5 X5 T5 kb Tb pb vab cyb hPtb accP hacc ho ho5 hw hPt5
    generalize upd H6 p (HO.ins C dx (jk "slopes" (V.ref acc) (jk "cycle" (V.ref cy) (jk "valley" (V.ref va) []))))=Hc at *
    walk_at "r"
    intro ye hye
    obtain ⟨_,hPtc⟩:=Tc.ne
    have ye0:=kc.free hye pc hPtc
    have yep:ye≠p:=(j1 pc hye).symm
    have s9:jn Hc (upd Hc ye (.dK [])):=jn.new hye
    walk_at "r"
    refine ⟨p,C,dx,_,rfl,s9 _ _ pc,T.cl,T.nY,bN (aG (jL _ _ _) (d8 (aG (jL _ _ _) (d8 (jL _ _ _))))) ⋯,?_⟩
    have d_of:∀c o,Hc c=some o->c≠p->(upd (upd Hc ye (HO.dK [])) p (HO.ins C dx (jk "years" (V.ref ye) (jk "slopes" (V.ref acc) (jk "cycle" (V.ref cy) (jk "valley" (V.ref va) [])))))) c=some o:=λc o h n=>by rw [j5 n];exact s9 _ _ h
    have kd:Kp p Pt H (upd (upd Hc ye (HO.dK [])) p (HO.ins C dx (jk "years" (V.ref ye) (jk "slopes" (V.ref acc) (jk "cycle" (V.ref cy) (jk "valley" (V.ref va) [])))))):=(kc.trans (Kp.of_same s9)).trans Kp.put
    have Td:qm (upd (upd Hc ye (HO.dK [])) p (HO.ins C dx (jk "years" (V.ref ye) (jk "slopes" (V.ref acc) (jk "cycle" (V.ref cy) (jk "valley" (V.ref va) [])))))) Pt:=vd (Tc.same s9) (s9 _ _ pc)
    have pd:(upd (upd Hc ye (HO.dK [])) p (HO.ins C dx (jk "years" (V.ref ye) (jk "slopes" (V.ref acc) (jk "cycle" (V.ref cy) (jk "valley" (V.ref va) [])))))) p=some (HO.ins C dx (jk "years" (V.ref ye) (jk "slopes" (V.ref acc) (jk "cycle" (V.ref cy) (jk "valley" (V.ref va) []))))):=j7
    have vad:=d_of _ _ vac vap
    have cyd:=d_of _ _ cyc cyp
    have sld:=d_of _ _ slc acp
    have yed:(upd (upd Hc ye (HO.dK [])) p (HO.ins C dx (jk "years" (V.ref ye) (jk "slopes" (V.ref acc) (jk "cycle" (V.ref cy) (jk "valley" (V.ref va) [])))))) ye=some (.dK []):=by rw [j5 yep];exact j7
    have slsd:zN (upd (upd Hc ye (HO.dK [])) p (HO.ins C dx (jk "years" (V.ref ye) (jk "slopes" (V.ref acc) (jk "cycle" (V.ref cy) (jk "valley" (V.ref va) [])))))) zs (ws.map (ja rs)):=Paired.mapP slsc λv wy ⟨a,e,ha⟩=>⟨a,e,d_of _ _ ha (jh ha pc (by walk_at "z"))⟩
    clear d_of kc Tc pc vac cyc slc slsc hye hPtc s9
    generalize (upd (upd Hc ye (HO.dK [])) p (HO.ins C dx (jk "years" (V.ref ye) (jk "slopes" (V.ref acc) (jk "cycle" (V.ref cy) (jk "valley" (V.ref va) []))))))=Hd at *
    obtain ⟨_,hPtd⟩:=Td.ne
    walk_at "r"
    refine ⟨p,C,dx,_,_,rfl,pd,T.cl,T.nS,(by rw [jv,if_neg ∅,jv,if_pos rfl]),?_⟩
    walk_at "r"
    refine ⟨⟨_,SqL.of sld⟩,λle hle=>?_⟩
    have lep:le≠p:=(j1 pd hle).symm
    have le0:=kd.free hle pd hPtd
    have zl:zs.length<=60:=()
    refine qg (K:=K) (a:=acc) (xs:=zs) (acc:=le) (λi σ He=>∃(x:Option V) (lds:List (Addr×List (Key×V))),σ=[x]/\He le=some (.lst (lds.map λx=>V.ref x.1))/\lds.length=i/\(∀x∈lds,He x.1=some (.dK x.2)/\x.2=[]/\Hd x.1=none/\x.1≠le)/\(lds.map (·.1)).Nodup/\Ext le Hd He) ?_ ?_ ?_ ?_
    ·exact ⟨none,[],rfl,j7,rfl,(λx z=>by cases z),fW,Ext.put⟩
    ·rintro i σ He hi ⟨x,lds,rfl,he,hl,hd,nn,e⟩
     exact SqL.of (e _ _ sld (j1 sld hle))
    ·rintro i v σ He hv ⟨x,lds,rfl,he,hl,hd,nn,e⟩
     have hi:=(List.getElem?_eq_some_iff.mp hv).1
     walk_at "r"
     intro d hd0
     have dl:d≠le:=(j1 he hd0).symm
     refine ⟨_,(by rw [j5 (cY dl)];exact he),by rw [af];exact je (),some v,lds++[(d,[])],rfl,(by rw [j7,aE];rfl),(by rw [av,hl];rfl),λy hy=>?_,?_,λc o hc n=>?_⟩
     ·rcases List.mem_append.mp hy with z | z
      ·obtain ⟨h1,h2,h3,h4⟩:=hd y z
       exact ⟨by rw [j5 h4,j5 (j1 h1 hd0)];exact h1,h2,h3,h4⟩
      ·obtain rfl:y=(d,[]):=by simpa using z
       exact ⟨by rw [j5 dl];exact j7,rfl,e.free hd0 dl,dl⟩
     ·rw [aE]
      refine vo nn λz=>?_
      obtain ⟨y,hy,ey⟩:=List.mem_map.mp z
      have:=(hd y hy).1
      rw [ey,hd0] at this
      cases this
     ·rw [j5 n,j5 (j1 (e c o hc n) hd0)]
      exact e c o hc n
    ·rintro σ He ⟨x,lds,rfl,he,hl,hd,nn,e⟩
     have hpe:=e _ _ pd (j1 pd hle)
     walk_at "r"
     refine ⟨p,C,dx,_,rfl,hpe,T.cl,T.nL,bN (aG (jL _ _ _) (d8 (aG (jL _ _ _) (d8 (aG (jL _ _ _) (d8 (jL _ _ _))))))) ⋯,?_⟩
     have f_of:∀c o,Hd c=some o->c≠p->upd He p (HO.ins C dx (jk "leaps" (V.ref le) (jk "years" (V.ref ye) (jk "slopes" (V.ref acc) (jk "cycle" (V.ref cy) (jk "valley" (V.ref va) [])))))) c=some o:=λc o h n=>by rw [j5 n];exact e _ _ h (j1 h hle)
     have kf:Kp p Pt H (upd He p (HO.ins C dx (jk "leaps" (V.ref le) (jk "years" (V.ref ye) (jk "slopes" (V.ref acc) (jk "cycle" (V.ref cy) (jk "valley" (V.ref va) []))))))):=λc o h n m=>f_of c o (kd c o h n m) n
     have hnp:∀x∈lds,x.1≠p:=λx hx=>(j1 pd (hd x hx).2.2.1).symm
     refine k _ { dx:=dx,va:=va,cy:=cy,sl:=acc,ye:=ye,le:=le,xs:=xs,ys:=ys,zs:=zs,lds:=lds,kvs:=[],rs:=rs,rows:=ts,slopes:=ws.map (ja rs) } eg egr ⟨⟨j7,f_of _ _ vad vap,hrw.keep (ji.kp kf hp hPt),f_of _ _ cyd cyp,hr3.imp λa t e=>kf.at e hp hPt (by walk_at "z") (by walk_at "z"),f_of _ _ sld acp,Paired.mapP slsd λv wy ⟨a,e,ha⟩=>⟨a,e,f_of _ _ ha (jh ha pd (by walk_at "z"))⟩,f_of _ _ yed yep,(by rw [j5 lep];exact he),λx hx=>by rw [j5 (hnp x hx)];exact (hd x hx).1⟩,kf,va0,cy0,acc0,ye0,le0,zs0,rfl,λx hx=>⟨kd.free (hd x hx).2.2.1 pd hPtd,(hd x hx).2.1⟩,hl.trans (aP slsd),nn,λx hx=>(j1 yed (hd x hx).2.2.1).symm,ws,hR,rfl⟩ rfl rfl rfl rfl (vd (Td.extN hle e) hpe)
def y3 (CY:Addr):Sp:=λvs H Q E=>∃y:Int,vs=[.int y]/\(0<=y->y<=99->Q .non H)/\(y<0\/99<y->E (.ref CY) none H)
theorem wR:FnScope ["year"] ["year"] (j8 zE):=by walk_at "s"
theorem wO {f CY:Addr}{fd:FuncData}{u0:Tok}(g_LAST_TOLD:mg "LAST_TOLD" = some (.int 99 u0)) (e_BadYear:mg "BadYear" = some (.ref CY)) (x_BadYear:cI K CY [.type "ValueError",.type "Exception",.type "BaseException",.type "object"] "ValueError.__new__" = true) (F:Fun K "check_told" "check_told" zE f fd):FnOk P w K mg base (CX1 P w) 1 f fd ["year"] (y3 CY):=by
 refine Fun.okX F wR (λvs H Q E h=>?_) (λcdv A outer s H vs Q E hr h=>?_)
 ·obtain ⟨y,rfl,_⟩:=h
  rfl
 ·obtain ⟨y,rfl,k,kx⟩:=h
  refine ⟨_,(j9 (qj (qT (x5 qq qq j6 (pv 0) (qX (v:=V.int 99) rfl g_LAST_TOLD ⟨_,rfl⟩))) (j9 (xl bo x_BadYear e_BadYear rfl xH rfl (j0 jw j2))) jD)),?_⟩
  walk_at "r"
  refine qS (λh0=>?_) (λh0=>?_)
  ·walk_at "r"
   refine zy (λh1=>?_) (λh1=>?_)
   ·walk_at "r"
    exact ⟨by show 1<=sizeLine;decide,kx (.inr ())⟩
   ·walk_at "r"
    exact k h0 h1
  ·walk_at "r"
   refine wL ?_
   walk_at "r"
   exact ⟨by show 1<=sizeLine;decide,kx (.inl ())⟩
theorem IceAt.years {C p:Addr}{H H':Hp}{g:IceG}{kvs:List (Key×V)}(I:IceAt C H p g) (hn:∀x∈g.lds,x.1≠g.ye) (e:Ext g.ye H H') (h:H' g.ye=some (.dK kvs)):IceAt C H' p { g with kvs:=kvs }:=by
 have f:∀{c:Addr} {o:HO},H c=some o->o≠.dK g.kvs->H' c=some o:=λh n=>e _ _ h (jh h I.ye n)
 exact ⟨f I.ob (by walk_at "z"),f I.va (by walk_at "z"),I.rs.keep λ_ _ q=>f q (by walk_at "z"),f I.cy (by walk_at "z"),I.rows.imp λ_ _ q=>f q (by walk_at "z"),f I.sl (by walk_at "z"),Paired.mapP I.slopes λv w ⟨a,ea,q⟩=>⟨a,ea,f q (by walk_at "z")⟩,h,f I.le (by walk_at "z"),λx hx=>e _ _ (I.lds x hx) (hn x hx)⟩
def Zu (C CY CW:Addr):Sp:=λvs H Q E=>∃(p t:Addr) (g:IceG) (y:Int) (r:T3),vs=[.ref p,.int y,.ref t]/\IceAt C H p g/\(∀x∈g.lds,x.1≠g.ye)/\H t=some (zj r)/\g.kvs.length<=1000 /\
 (∀H',0<=y->y<=99->good r=true->Ext g.ye H H'->IceAt C H' p { g with kvs:=qf g.kvs (.inl y) (.ref t) }->Q .non H')/\(y<0\/99<y->E (.ref CY) none H)/\(0<=y->y<=99->good r=false->E (.ref CW) none H)
theorem kZ:FnScope ["self","year","row"] ["self","year","row"] (j8 y7):=by walk_at "s"
theorem hU {f C CY CW:Addr}{fd:FuncData}(nb:Nb2 mg) (T:IceC K C) (e_BadWeather:mg "BadWeather" = some (.ref CW)) (x_BadWeather:cI K CW [.type "ValueError",.type "Exception",.type "BaseException",.type "object"] "ValueError.__new__" = true) (c_check_told:CalX P w K mg base 1 "check_told" ["year"] (y3 CY)) (c_is_weather:Cal P w K mg base 1 "is_weather" ["row"] JW) (F:Fun K "tell" "Ice.tell" y7 f fd):FnOk P w K mg base (CX1 P w) 2 f fd ["self","year","row"] (Zu C CY CW):=by
 refine Fun.okX F kZ (λvs H Q E h=>?_) (λcdv A outer s H vs Q E hr h=>?_)
 ·obtain ⟨p,t,g,y,r,rfl,_⟩:=h
  rfl
 ·obtain ⟨p,t,g,y,r,rfl,I,hn,ht,hk,k,ky,kw⟩:=h
  refine ⟨_,(j4 (jU (xw c_check_told (hr.mono ⋯) qt rfl (j0 (pv 1) j2)))
   (j4 (qj (qT (yN (jd c_is_weather (hr.mono ⋯) rfl (j0 (pv 2) j2)))) (j9 (xl bo x_BadWeather e_BadWeather rfl xH rfl (j0 jw j2))) jD)
   (j9 (xv (jK hr) (qY K (pv 0)) (pv 1) (pv 2) rfl)))),?_⟩
  walk_at "r"
  refine ⟨λh0 h1=>?_,λhb=>ky hb⟩
  walk_at "r"
  refine ⟨t,r,rfl,ht,?_⟩
  cases eg:good r with
  | false =>
   walk_at "r"
   exact ⟨by show 1<=sizeLine;decide,kw h0 h1 eg⟩
  | true =>
   walk_at "r"
   refine ⟨p,C,g.dx,_,_,rfl,I.ob,T.cl,T.nY,wI _ _ _ _ _,?_⟩
   walk_at "r"
   refine ⟨g.ye,_,rfl,vx.k (k:=.inl y) I.ye (je hk),?_⟩
   exact k _ h0 h1 eg Ext.put (I.years hn Ext.put j7)
def zZ (l:List (Addr×List (Key×V))) (n:Nat) (kvs:List (Key×V)):List (Addr×List (Key×V)):=l.set n ((l.getD n (0,[])).1,kvs)
theorem XJ (l:List (Addr×List (Key×V))) (n:Nat) (kvs:List (Key×V)):(zZ l n kvs).map (λx=>V.ref x.1)=l.map λx=>V.ref x.1:=by
 unfold zZ
 rw [List.map_set]
 by_cases h:n<l.length
 ·rw [ak,aa h]
  refine i5 λi=>?_
  rw [dw]
  by_cases e:n=i
  ·subst e
   rw [if_pos rfl,af,if_pos h,ar,aa h]
   rfl
  ·rw [if_neg e]
 ·rw [List.set_eq_of_length_le (by rw [af];omega)]
theorem IceAt.leap {C p:Addr}{H H':Hp}{g:IceG}{n:Nat}{a:Addr}{kvs kvs':List (Key×V)}(I:IceAt C H p g) (ha:g.lds[n]? = some (a,kvs)) (hn:∀x∈g.lds,x.1≠g.ye) (nd:(g.lds.map (·.1)).Nodup) (e:Ext a H H') (h:H' a=some (.dK kvs')):IceAt C H' p { g with lds:=zZ g.lds n kvs' }:=by
 have hm:=au ha
 have h0:=I.lds _ hm
 have f:∀{c:Addr} {o:HO},H c=some o->(∀z,o≠.dK z)->H' c=some o:=λh n=>e _ _ h (jh h h0 (n _))
 have hl:n<g.lds.length:=(List.getElem?_eq_some_iff.mp ha).1
 refine ⟨f I.ob (by walk_at "w"),f I.va (by walk_at "w"),I.rs.keep λ_ _ q=>f q (by walk_at "w"),f I.cy (by walk_at "w"),I.rows.imp λ_ _ q=>f q (by walk_at "w"),f I.sl (by walk_at "w"),Paired.mapP I.slopes λv w ⟨a,ea,q⟩=>⟨a,ea,f q (by walk_at "w")⟩,e _ _ I.ye (λz=>hn _ hm z.symm),(by show H' g.le=_;rw [XJ];exact f I.le (by walk_at "w")),λx hx=>?_⟩
 have hx':x∈zZ g.lds n kvs':=hx
 obtain ⟨i,hi,ex⟩:=List.mem_iff_getElem.mp hx'
 have hi2:i<g.lds.length:=by unfold zZ at hi;rw [cQ] at hi;exact hi
 have ex2:(zZ g.lds n kvs')[i]? = some x:=by rw [aa hi,ex]
 unfold zZ at ex2
 rw [dw] at ex2
 by_cases en:n=i
 ·rw [if_pos en,if_pos ()] at ex2
  rw [<- aR ex2,ak,ha]
  exact h
 ·rw [if_neg en] at ex2
  refine e _ _ (I.lds x (au ex2)) λz=>en ?_
  have h1:(g.lds.map (·.1))[n]? = some a:=by rw [ar,ha];rfl
  have h2:(g.lds.map (·.1))[i]? = some a:=by rw [ar,ex2,<- z];rfl
  have l1:=(List.getElem?_eq_some_iff.mp h1).1
  have l2:=(List.getElem?_eq_some_iff.mp h2).1
  exact (List.getElem?_inj l1 nd).mp (h1.trans h2.symm)
def QQ (C CN CY CS:Addr):Sp:=λvs H Q E=>∃(p:Addr) (g:IceG) (l y m:Int),vs=[.ref p,.int l,.int y,.int m]/\IceAt C H p g/\g.lds.length=g.slopes.length/\(∀x∈g.lds,x.1≠g.ye)/\(g.lds.map (·.1)).Nodup/\(∀x∈g.lds,x.2.length<=1000) /\
 (∀H' a kvs,0<=l->l<(g.slopes.length:Int)->0<=y->y<=99->1<=m->m<=9->g.lds[l.toNat]? = some (a,kvs)->Ext a H H'->IceAt C H' p { g with lds:=zZ g.lds l.toNat (qf kvs (.inl y) (.int m)) }->Q .non H') /\
 (l<0\/(g.slopes.length:Int)<=l->E (.ref CN) none H)/\(0<=l->l<(g.slopes.length:Int)->y<0\/99<y->E (.ref CY) none H)/\(0<=l->l<(g.slopes.length:Int)->0<=y->y<=99->m<1\/9<m->E (.ref CS) none H)
theorem wN:FnScope ["self","lane","year","many"] ["self","lane","year","many"] (j8 zK):=by walk_at "s"
theorem wM {f C CN CY CS:Addr}{fd:FuncData}{u0:Tok}(nb:Nb2 mg) (T:IceC K C) (cl_Ice:Cls K C) (g_GREATEST_SURGE:mg "GREATEST_SURGE" = some (.int 9 u0)) (e_BadSurge:mg "BadSurge" = some (.ref CS)) (x_BadSurge:cI K CS [.type "ValueError",.type "Exception",.type "BaseException",.type "object"] "ValueError.__new__" = true) (c_Ice__check_lane:CalMX P w K mg base 1 C "check_lane" ["self","lane"] (xE C CN)) (c_check_told:CalX P w K mg base 1 "check_told" ["year"] (y3 CY)) (F:Fun K "surge" "Ice.surge" zK f fd):FnOk P w K mg base (CX1 P w) 2 f fd ["self","lane","year","many"] (QQ C CN CY CS):=by
 refine Fun.okX F wN (λvs H Q E h=>?_) (λcdv A outer s H vs Q E hr h=>?_)
 ·obtain ⟨p,g,l,y,m,rfl,_⟩:=h
  rfl
 ·obtain ⟨p,g,l,y,m,rfl,I,hll,hn,nd,hk,k,kn,ky,ks⟩:=h
  refine ⟨_,(j4 (jU (zp (pv 0) cl_Ice c_Ice__check_lane (hr.mono ⋯) qt (j0 (pv 1) j2)))
   (j4 (jU (xw c_check_told (hr.mono ⋯) qt rfl (j0 (pv 2) j2)))
   (j4 (qj (qT (x5 qq qq j6 (pv 3) (qX (v:=V.int 9) rfl g_GREATEST_SURGE ⟨_,rfl⟩))) (j9 (xl bo x_BadSurge e_BadSurge rfl xH rfl (j0 jw j2))) jD)
   (j9 (xv (jK hr) (jp (jb K) (qY K (pv 0)) (pv 1) (λ_ _=>rfl)) (pv 2) (pv 3) rfl))))),?_⟩
  walk_at "r"
  refine ⟨p,g.dx,_,rfl,I.ob,qz ∅,?_⟩
  walk_at "r"
  refine ⟨p,g,l,rfl,I,λl0 l1=>?_,λhb=>kn hb⟩
  walk_at "r"
  refine ⟨λh0 h1=>?_,λhb=>ky l0 l1 hb⟩
  have hi:l.toNat<g.lds.length:=()
  walk_at "r"
  refine qS (λm0=>?_) (λm0=>?_)
  ·walk_at "r"
   refine zy (λm1=>?_) (λm1=>?_)
   ·walk_at "r"
    exact ⟨by show 1<=sizeLine;decide,ks l0 l1 h0 h1 (.inr ())⟩
   ·walk_at "r"
    refine ⟨p,C,g.dx,_,_,rfl,I.ob,T.cl,T.nL,yI _ _ _ _ _,?_⟩
    walk_at "r"
    refine ⟨_,_,_,_,rfl,rfl,SqL.of I.le,qx l0 (v:=V.ref (g.lds[l.toNat]'hi).1) (by rw [ar,aa hi];rfl),?_⟩
    walk_at "r"
    have h0':=I.lds _ (bH hi)
    refine ⟨_,_,rfl,vx.k (k:=.inl y) h0' (je (hk _ (bH hi))),?_⟩
    exact k _ _ _ l0 l1 h0 h1 m0 m1 (aa hi) Ext.put (I.leap (aa hi) hn nd Ext.put j7)
  ·walk_at "r"
   refine wL ?_
   walk_at "r"
   exact ⟨by show 1<=sizeLine;decide,ks l0 l1 h0 h1 (.inl ())⟩
def kvI (q:Int×Int):Key×V:=(.inl q.1,.int q.2)
def qG:List (Int×Int)->Int->Int
 | [],_=>0
 | q::r,y=>if q.1=y then q.2 else qG r y
theorem vJ:∀(ns:List (Int×Int)) (y:Int),y∈ns.map (·.1)->qy (ns.map kvI) (.inl y)=some (.int (qG ns y))
 | [],y,h=>by cases h
 | q::r,y,h=>by
  rw [aH]
  unfold qy qG
  by_cases e:q.1=y
  ·subst e
   simp [kvI,List.find?]
  ·have h':y∈r.map (·.1):=by
    rcases List.mem_cons.mp h with z | z
    ·exact absurd z.symm e
    ·exact z
   have ih:=vJ r y h'
   unfold qy at ih
   simp [kvI,List.find?,e] at ih ⊢
   exact ih
theorem JL:∀(ns:List (Int×Int)),(ns.map (·.1)).Nodup->(ns.map (·.1)).map (λy=>(y,qG ns y))=ns
 | [],_=>rfl
 | q::r,nd=>by
  rw [aH] at nd ⊢
  obtain ⟨h1,h2⟩:=List.nodup_cons.mp nd
  rw [aH]
  have e:qG (q::r) q.1=q.2:=by unfold qG;rw [if_pos rfl]
  rw [e]
  refine congrArg (q :: ·) ?_
  conv=>rhs;rw [<- JL r h2]
  refine cD λy hy=>?_
  have hne:¬q.1=y:=λz=>h1 (z ▸ hy)
  show (y,qG (q::r) y)=_
  conv=>lhs;unfold qG
  rw [if_neg hne]
def ym (C CN:Addr):Sp:=λvs H Q E=>∃(p:Addr) (g:IceG) (l:Int),vs=[.ref p,.int l]/\IceAt C H p g/\g.lds.length=g.slopes.length/\(l<0\/(g.slopes.length:Int)<=l->E (.ref CN) none H) /\
 (0<=l->l<(g.slopes.length:Int)->∃(a:Addr) (ns:List (Int×Int)),g.lds[l.toNat]? = some (a,ns.map kvI)/\(ns.map (·.1)).Nodup/\ns.length<64 /\
  ∀o H' out (ms:List (Int×Int)),H o=none->H' o=some (.lst out)->cf (λv (m:Int×Int)=>∃b,v=V.ref b/\H' b=some (.tup [.int m.1,.int m.2])) out ms->jn H H'->ms.Perm ns->(ms.map (·.1)).Pairwise (· <= ·)->Q (.ref o) H')
theorem uU:FnScope ["self","lane"] ["self","lane"] (j8 xx):=by walk_at "s"
theorem w5 {f C CN:Addr}{fd:FuncData}(nb:Nb2 mg) (T:IceC K C) (cl_Ice:Cls K C) (c_Ice__check_lane:CalMX P w K mg base 1 C "check_lane" ["self","lane"] (xE C CN)) (F:Fun K "surges" "Ice.surges" xx f fd):FnOk P w K mg base (CX1 P w) 2 f fd ["self","lane"] (ym C CN):=by
 refine Fun.okX F uU (λvs H Q E h=>?_) (λcdv A outer s H vs Q E hr h=>?_)
 ·obtain ⟨p,g,l,rfl,_⟩:=h
  rfl
 ·obtain ⟨p,g,l,rfl,I,hll,kx,k⟩:=h
  refine ⟨_,(j4 (jU (zp (pv 0) cl_Ice c_Ice__check_lane (hr.mono ⋯) qt (j0 (pv 1) j2)))
   (j9 (jj (jX (osc:=(j8 xx)) (ON:=["self","lane"]) (N:=["year","lane","self"]) (own:=1) (caps:=[1,0]) ⟨rfl,∅,∅,∅,rfl,∅⟩ rfl rfl rfl (jW K (jg (kQ K rfl) rfl nb.b_sorted mY (j0 (jp (jb K) (qY K (pv 0)) (pv 1) (λ_ _=>rfl)) j2))) (λ_ _ _ _ _=>(jc (i:=0) (show bj (["year","lane","self"]:List Str) by decide +kernel) rfl (aS rfl))) (λ_ _ _ _ _=>jF) (λ_ _ _ _ _=>(qZ (j0 (pv 0) (j0 (jC (jK hr) (jp (jb K) (qY K (pv 2)) (pv 1) (λ_ _=>rfl)) (pv 0) (λ_ _=>rfl)) j2)))))))),?_⟩
  walk_at "r"
  refine ⟨p,g.dx,_,rfl,I.ob,qz ∅,?_⟩
  walk_at "r"
  refine ⟨p,g,l,rfl,I,λl0 l1=>?_,λhb=>kx hb⟩
  obtain ⟨a,ns,ha,nd,h64,k⟩:=k l0 l1
  have hi:=(List.getElem?_eq_some_iff.mp ha).1
  have hm:=I.lds _ (au ha)
  have hat:atI (g.lds.map λx=>V.ref x.1) l=some (.ref a):=qx l0 (by rw [ar,ha];rfl)
  walk_at "r"
  refine ⟨p,C,g.dx,_,_,rfl,I.ob,T.cl,T.nL,yI _ _ _ _ _,?_⟩
  walk_at "r"
  refine ⟨_,_,_,_,rfl,rfl,SqL.of I.le,hat,?_⟩
  refine ⟨a,ns.map kvI,ns.map (·.1),rfl,hm,by rw [bB,bB];rfl,by rw [af];exact h64,λo H1 ks ho ho1 s1 hp hs=>?_⟩
  have hkl:ks.length<64:=by rw [hp.length_eq,af];exact h64
  refine ⟨o,rfl,⟨_,SqL.of ho1⟩,λacc hacc=>?_⟩
  refine qg (K:=K) (a:=o) (xs:=ks.map V.int) (acc:=acc) (λi σ H2=>∃(x:Option V) (out:List V),σ=[x,some (.int l),some (.ref p)]/\H2 acc=some (.lst out)/\out.length=i/\cf (λv (m:Int×Int)=>∃b,v=V.ref b/\H2 b=some (.tup [.int m.1,.int m.2])) out ((ks.take i).map λy=>(y,qG ns y))/\Ext acc H1 H2) ?_ ?_ ?_ ?_
  ·exact ⟨none,[],rfl,j7,rfl,.nil,Ext.put⟩
  ·rintro i σ H2 hi ⟨x,out,rfl,h2,hz,r2,e2⟩
   exact SqL.of (e2 _ _ ho1 (j1 ho1 hacc))
  ·rintro i v σ H2 hv ⟨x,out,rfl,h2,hz,r2,e2⟩
   obtain ⟨y,rfl,hy⟩:=uR hv
   have hiy:=(List.getElem?_eq_some_iff.mp hy).1
   have hyn:y∈ns.map (·.1):=hp.mem_iff.mp (au hy)
   have t2:jn H H2:=λc o hc=>e2 _ _ (s1 _ _ hc) (j1 (s1 _ _ hc) hacc)
   have I2:=I.same t2
   walk_at "r"
   refine ⟨p,C,g.dx,_,_,rfl,I2.ob,T.cl,T.nL,yI _ _ _ _ _,?_⟩
   walk_at "r"
   refine ⟨_,_,_,_,rfl,rfl,SqL.of I2.le,hat,?_⟩
   walk_at "r"
   refine ⟨a,.int (qG ns y),rfl,by rw [<- vJ ns y hyn];exact qP.k (k:=.inl y) (t2 _ _ hm),?_⟩
   walk_at "r"
   refine ⟨by show 2<=sizeLine;decide,λb H3 hb hb3 s3=>?_⟩
   have h3:=s3 _ _ h2
   have bacc:b≠acc:=(j1 h2 hb).symm
   refine ⟨out,h3,je (),some (.int y),out++[.ref b],rfl,j7,by rw [av,hz];rfl,?_,λc o hc n=>by rw [j5 n];exact s3 _ _ (e2 c o hc n)⟩
   rw [qr (λy=>(y,qG ns y)) ks i y hy]
   exact cu (Paired.mapP r2 λv m ⟨c,e,q⟩=>⟨c,e,by rw [j5 (jh (s3 _ _ q) h3 (by walk_at "z"))];exact s3 _ _ q⟩) ⟨b,rfl,by rw [j5 bacc];exact hb3⟩
  ·rintro σ H2 ⟨x,out,rfl,h2,hz,r2,e2⟩
   rw [af,bb] at r2
   have t2:jn H H2:=λc o hc=>e2 _ _ (s1 _ _ hc) (j1 (s1 _ _ hc) hacc)
   refine k acc H2 out _ (s1.free hacc) h2 r2 t2 ?_ ?_
   ·have:=hp.map λy=>(y,qG ns y)
    rw [JL ns nd] at this
    exact this
   ·rw [bB]
    have:((λx:Int×Int=>x.1) ∘ λy=>(y,qG ns y))=id:=rfl
    rw [this,lA]
    exact hs
def js (st ad:Int):List (Int×Int)->Int->Int
 | [],goal=>if goal-ad > st then goal-ad else st
 | q::r,goal=>if goal-ad<q.1 then (if goal-ad > st then goal-ad else st) else js q.1 (ad+q.2) r goal
def uT (H:Hp) (out:List V) (ms:List (Int×Int)):Prop:=cf (λv (m:Int×Int)=>∃b,v=V.ref b/\H b=some (.tup [.int m.1,.int m.2])) out ms
theorem uT.same {H H':Hp}{out:List V}{ms:List (Int×Int)}(h:uT H out ms) (s:jn H H'):uT H' out ms:=Paired.mapP h λ_ _ ⟨b,e,q⟩=>⟨b,e,s _ _ q⟩
def wo:Sp:=λvs H Q _=>∃(p:Addr) (out:List V) (ms:List (Int×Int)) (goal:Int),vs=[.ref p,.int goal]/\H p=some (.lst out)/\uT H out ms/\∀H',jn H H'->Q (.int (js 0 0 ms goal)) H'
theorem qE:FnScope ["surges","goal","start","added","year","many"] ["surges","goal"] (j8 yC):=by walk_at "s"
theorem gX {f:Addr}{fd:FuncData}(nb:Nb2 mg) (F:Fun K "earliest" "earliest" yC f fd):FnOk P w K mg base CX0 1 f fd ["surges","goal"] wo:=by
 refine F.ok qE (λvs H Q E h=>?_) (λcdv A outer s H vs Q E hr h=>?_)
 ·obtain ⟨p,out,ms,goal,rfl,_⟩:=h
  rfl
 ·obtain ⟨p,out,ms,goal,rfl,hp,hr2,k⟩:=h
  have hlen:out.length=ms.length:=aP hr2
  refine ⟨_,(j4 (ju 2 qE.nd j6)
   (j4 (ju 3 qE.nd j6)
   (j4 (xh bt rfl (jW K (pv 0)) (qI (n:=2) K rfl (jr (jc (i:=4) qE.nd rfl (aS rfl)) (jr (jc (i:=5) qE.nd rfl (aS rfl)) qN))) (j4 (qj (jI yw (jo xk (pv 1) (pv 3)) (pv 4) (qe _)) (j9 JP) jD)
   (j4 (ju 2 qE.nd (pv 4))
   (j9 (Qc (i:=3) qE.nd rfl (aS rfl) (pv 5) Qr)))))
   (j9 (jj (jg (yg rfl) rfl nb.b_max om (j0 (pv 2) (j0 (jo xk (pv 1) (pv 3)) j2)))))))),?_⟩
  walk_at "r"
  refine ⟨⟨_,SqL.of hp⟩,?_⟩
  refine vg (K:=K) (a:=p) (xs:=out) (λi σ H2=>∃(st ad:Int) (v4 v5:Option V),σ=[some (.ref p),some (.int goal),some (.int st),some (.int ad),v4,v5]/\jn H H2/\js st ad (ms.drop i) goal=js 0 0 ms goal) ?_ ?_ ?_ ?_
  ·exact ⟨0,0,_,_,rfl,jn.refl _,by rw [ou]⟩
  ·rintro i σ H2 hi ⟨st,ad,v4,v5,rfl,s2,e2⟩
   exact SqL.of (s2 _ _ hp)
  ·rintro i v σ H2 hv ⟨st,ad,v4,v5,rfl,s2,e2⟩
   obtain ⟨m,hm,b,rfl,hb⟩:=Paired.get hr2 hv
   have hi:=(List.getElem?_eq_some_iff.mp hm).1
   have ed:ms.drop i=m::ms.drop (i+1):=by
    rw [bT hi]
    have:=(List.getElem?_eq_some_iff.mp hm).2
    rw [this]
   rw [ed] at e2
   walk_at "r"
   refine ⟨b,_,rfl,SqT.of (s2 _ _ hb),rfl,?_⟩
   refine ⟨_,_,rfl,_,_,rfl,rfl,?_⟩
   walk_at "r"
   refine qS (λh1=>?_) (λh1=>?_)
   ·walk_at "r"
    refine ⟨_,_,rfl,?_⟩
    rw [show js st ad (m::ms.drop (i+1)) goal=if goal-ad > st then goal-ad else st from by conv=>lhs;unfold js;rw [if_pos h1]] at e2
    have k2:=k H2 s2
    rw [<- e2] at k2
    exact k2
   ·walk_at "r"
    refine ⟨_,_,_,_,rfl,s2,?_⟩
    rw [<- e2]
    conv=>rhs;unfold js;rw [if_neg h1]
  ·rintro σ H2 ⟨st,ad,v4,v5,rfl,s2,e2⟩
   rw [hlen,List.drop_length] at e2
   walk_at "r"
   refine ⟨_,_,rfl,?_⟩
   have k2:=k H2 s2
   rw [<- e2] at k2
   exact k2
def ZH (C CN:Addr):Sp:=λvs H Q E=>∃(p:Addr) (g:IceG) (l mark:Int),vs=[.ref p,.int l,.int mark]/\IceAt C H p g/\g.lds.length=g.slopes.length/\(∀H',jn H H'->l<0\/(g.slopes.length:Int)<=l->E (.ref CN) none H') /\
 (0<=l->l<(g.slopes.length:Int)->∃(a:Addr) (ns:List (Int×Int)),g.lds[l.toNat]? = some (a,ns.map kvI)/\(ns.map (·.1)).Nodup/\ns.length<64 /\
  ∀ms:List (Int×Int),ms.Perm ns->(ms.map (·.1)).Pairwise (· <= ·)->∀fst gon:Int,fst=js 0 0 ms mark->gon=js 0 0 ms (mark+((g.slopes.getD l.toNat []).length:Int)) ->
   (fst<gon->∀t H',jn H H'->H' t=some (.tup [.int fst,.int (gon-1)])->Q (.ref t) H')/\(¬fst<gon->∀H',jn H H'->Q .non H'))
theorem uz:FnScope ["ice","lane","mark","surges","first","gone"] ["ice","lane","mark"] (j8 QD):=by walk_at "s"
theorem YK {f C CN:Addr}{fd:FuncData}(cl_Ice:Cls K C) (c_Ice__surges:CalMX P w K mg base 2 C "surges" ["self","lane"] (ym C CN)) (c_Ice__length:CalMX P w K mg base 2 C "length" ["self","lane"] (kG C CN)) (c_earliest:Cal P w K mg base 1 "earliest" ["surges","goal"] wo) (F:Fun K "span" "span" QD f fd):FnOk P w K mg base (CX1 P w) 3 f fd ["ice","lane","mark"] (ZH C CN):=by
 refine Fun.okX F uz (λvs H Q E h=>?_) (λcdv A outer s H vs Q E hr h=>?_)
 ·obtain ⟨p,g,l,mark,rfl,_⟩:=h
  rfl
 ·obtain ⟨p,g,l,mark,rfl,I,hll,kx,k⟩:=h
  refine ⟨_,(j4 (ju 3 uz.nd (zp (pv 0) cl_Ice c_Ice__surges (hr.mono ⋯) qt (j0 (pv 1) j2)))
   (j4 (ju 4 uz.nd (jd c_earliest (hr.mono ⋯) rfl (j0 (pv 3) (j0 (pv 2) j2))))
   (j4 (ju 5 uz.nd (jd c_earliest (hr.mono ⋯) rfl (j0 (pv 3) (j0 (jo jJ (pv 2) (zp (pv 0) cl_Ice c_Ice__length (hr.mono ⋯) qt (j0 (pv 1) j2))) j2))))
   (j9 (jj (ZF (jI yw (pv 4) (pv 5) (qe _)) (qZ (j0 (pv 4) (j0 (jo xk (pv 5) j6) j2))) Zv)))))),?_⟩
  walk_at "r"
  refine ⟨p,g.dx,_,rfl,I.ob,qz ∅,?_⟩
  walk_at "r"
  refine ⟨p,g,l,rfl,I,hll,λhb=>kx H (jn.refl H) hb,λl0 l1=>?_⟩
  obtain ⟨a,ns,ha,nd,h64,k⟩:=k l0 l1
  refine ⟨a,ns,ha,nd,h64,λo H1 out ms ho ho1 hq s1 hp hs=>?_⟩
  have k:=k ms hp hs _ _ rfl rfl
  walk_at "r"
  refine ⟨o,out,ms,mark,rfl,ho1,hq,λH2 s2=>?_⟩
  walk_at "r"
  have t2:=s1.trans s2
  refine ⟨p,g.dx,_,rfl,t2 _ _ I.ob,qz ∅,?_⟩
  walk_at "r"
  refine ⟨p,g,l,rfl,I.same t2,λ_ _=>?_,λhb=>absurd hb ()⟩
  walk_at "r"
  refine ⟨o,out,ms,_,rfl,s2 _ _ ho1,uT.same hq s2,λH3 s3=>?_⟩
  have t3:=t2.trans s3
  walk_at "r"
  refine qS (λh1=>?_) (λh1=>?_)
  ·walk_at "r"
   refine ⟨by show 2<=sizeLine;decide,λt H4 ht ht4 s4=>?_⟩
   exact k.1 h1 t H4 (t3.trans s4) ht4
  ·walk_at "r"
   exact k.2 h1 H3 t3
def JZ:Sp:=λvs H Q _=>∃(L b:Addr),vs=[.ref b]/\jR L H b/\∀(y:Int) (H':Hp),0<=y->y<=99->jR L H' b->Ext b H H'->Q (.int y) H'
theorem JQ:FnScope ["_law_box_here"] ["_law_box_here"] (j8 yP):=by walk_at "s"
theorem YQ {v a b c:Int}(h0:0<=v) (h1:v<5) (ha:0<=a/\a<=99) (hb:0<=b/\b<=99) (hc:0<=c/\c<=99):∃n,atI [V.int a,V.int b,V.int c,V.int 99,V.int 0] v=some (V.int n)/\0<=n/\n<=99:=by
 have h:v=0\/v=1\/v=2\/v=3\/v=4:=()
 rcases h with rfl | rfl | rfl | rfl | rfl
 ·exact ⟨a,rfl,ha.1,ha.2⟩
 ·exact ⟨b,rfl,hb.1,hb.2⟩
 ·exact ⟨c,rfl,hc.1,hc.2⟩
 ·exact ⟨99,rfl,⋯,⋯⟩
 ·exact ⟨0,rfl,⋯,⋯⟩
theorem YJ {f:Addr}{fd:FuncData}(c_law_take:Cal P w K mg base 2 "_law_take" ["_law_box_here","_law_size"] xb) (F:Fun K "_law_year" "_law_year" yP f fd):FnOk P w K mg base CX0 3 f fd ["_law_box_here"] JZ:=by
 refine F.ok JQ (λvs H Q E h=>?_) (λcdv A outer s H vs Q E hr h=>?_)
 ·obtain ⟨L,b,rfl,_⟩:=h
  rfl
 ·obtain ⟨L,b,rfl,B,k⟩:=h
  refine ⟨_,(j9 (jj (jp (jb K) (jM (j0 (jd c_law_take (hr.mono ⋯) rfl (j0 (pv 0) (j0 j6 j2))) (j0 (jd c_law_take (hr.mono ⋯) rfl (j0 (pv 0) (j0 j6 j2))) (j0 (jd c_law_take (hr.mono ⋯) rfl (j0 (pv 0) (j0 j6 j2))) (j0 j6 (j0 j6 j2)))))) (jd c_law_take (hr.mono ⋯) rfl (j0 (pv 0) (j0 j6 j2))) (λ_ _=>rfl)))),?_⟩
  walk_at "r"
  refine ⟨L,b,_,rfl,B,⟨⋯,⋯⟩,λv1 H1 p1 q1 B1 X1=>?_⟩
  walk_at "r"
  refine ⟨L,b,_,rfl,B1,⟨⋯,⋯⟩,λv2 H2 p2 q2 B2 X2=>?_⟩
  walk_at "r"
  refine ⟨L,b,_,rfl,B2,⟨⋯,⋯⟩,λv3 H3 p3 q3 B3 X3=>?_⟩
  walk_at "r"
  refine ⟨by show 5<=sizeLine;decide,λl H4 hl hl4 s4=>?_⟩
  walk_at "r"
  refine ⟨L,b,_,rfl,B3.same s4,⟨⋯,⋯⟩,λv5 H5 p5 q5 B5 X5=>?_⟩
  obtain ⟨n,en,n0,n1⟩:=YQ p5 q5 (a:=v1) (b:=v2) (c:=v3) ⟨p1,()⟩ ⟨p2,()⟩ ⟨p3,()⟩
  refine ⟨_,_,_,_,rfl,rfl,SqL.of (X5 _ _ hl4 (B3.ne hl)),en,?_⟩
  exact k n H5 n0 n1 B5 ((((X1.trans X2).trans X3).trans (Ext.of_same s4)).trans X5)
def Vm:Sp:=λvs H Q _=>∃(L b:Addr),vs=[.ref b]/\jR L H b/\∀(v:Int) (H':Hp),0<=v->v<10 ^ 40->jR L H' b->Ext b H H'->Q (.int v) H'
theorem Q8:FnScope ["_law_box_here"] ["_law_box_here"] (j8 vS):=by walk_at "s"
theorem YZ {v:Int}(a:0<=v) (b:v<4):∃n,atI [V.int 100,V.int (10 ^ 9),V.int (10 ^ 20),V.int (10 ^ 40-99)] v=some (V.int n)/\0<n/\n<=10 ^ 40:=by
 have h:v=0\/v=1\/v=2\/v=3:=()
 rcases h with rfl | rfl | rfl | rfl
 ·exact ⟨100,rfl,⋯,⋯⟩
 ·exact ⟨10 ^ 9,rfl,⋯,⋯⟩
 ·exact ⟨10 ^ 20,rfl,⋯,⋯⟩
 ·exact ⟨10 ^ 40-99,rfl,⋯,⋯⟩
theorem Ul {f:Addr}{fd:FuncData}(nb:Nb2 mg) (c_law_take:Cal P w K mg base 2 "_law_take" ["_law_box_here","_law_size"] xb) (F:Fun K "_law_far" "_law_far" vS f fd):FnOk P w K mg base CX0 3 f fd ["_law_box_here"] Vm:=by
 refine F.ok Q8 (λvs H Q E h=>?_) (λcdv A outer s H vs Q E hr h=>?_)
 ·obtain ⟨L,b,rfl,_⟩:=h
  rfl
 ·obtain ⟨L,b,rfl,B,k⟩:=h
  refine ⟨_,(j9 (jj (jd c_law_take (hr.mono ⋯) rfl (j0 (pv 0) (j0 (jp (jb K) (jM (j0 j6 (j0 (jo gC j6 j6) (j0 (jo gC j6 j6) (j0 (jo xk (jo gC j6 j6) j6) j2))))) (jd c_law_take (hr.mono ⋯) rfl (j0 (pv 0) (j0 j6 j2))) (λ_ _=>rfl)) j2))))),?_⟩
  walk_at "r"
  refine ⟨by show 4<=sizeLine;decide,λl H1 hl hl1 s1=>?_⟩
  walk_at "r"
  refine ⟨L,b,_,rfl,B.same s1,⟨⋯,⋯⟩,λv H2 v0 v1 B2 X2=>?_⟩
  obtain ⟨n,en,n0,n1⟩:=YZ v0 v1
  have lb:l≠b:=B.ne hl
  refine ⟨l,_,v,_,rfl,rfl,SqL.of (X2 _ _ hl1 lb),en,?_⟩
  walk_at "r"
  refine ⟨L,b,n,rfl,B2,⟨n0,Int.lt_of_le_of_lt n1 ⋯⟩,λv2 H3 v20 v21 B3 X3=>?_⟩
  exact k v2 H3 v20 () B3 (λc o hc nc=>X3 _ _ (X2 _ _ (s1 _ _ hc) nc) nc)
def scK (p q sg gl ll:Addr):List (Key×V):=[(.inr "reaches",.ref p),(.inr "rows",.ref q),(.inr "single",.ref sg),(.inr "grounds",.ref gl),(.inr "leaps",.ref ll)]
theorem xg {k:Key}{v:V}{r:List (Key×V)}:qy ((k,v)::r) k=some v:=by
 unfold qy
 rw [cc (p:=λkv:Key×V=>decide (kv.1=k)) (a:=(k,v)) (decide_eq_true rfl)]
 rfl
theorem jt {k k':Key}{v:V}{r:List (Key×V)}(h:k'≠k):qy ((k',v)::r) k=qy r k:=by
 unfold qy
 rw [bS (p:=λkv:Key×V=>decide (kv.1=k)) (a:=(k',v)) (λz=>h (of_decide_eq_true z))]
theorem Q7 (p q sg gl ll:Addr):qy (scK p q sg gl ll) (.inr "reaches")=some (.ref p):=xg
theorem gI (p q sg gl ll:Addr):qy (scK p q sg gl ll) (.inr "rows")=some (.ref q):=(jt (show (aI (ag "reaches"):Key)≠aI (ag "rows") by decide +kernel)).trans (xg)
theorem zq (p q sg gl ll:Addr):qy (scK p q sg gl ll) (.inr "single")=some (.ref sg):=(jt (show (aI (ag "reaches"):Key)≠aI (ag "single") by decide +kernel)).trans ((jt (show (aI (ag "rows"):Key)≠aI (ag "single") by decide +kernel)).trans (xg))
theorem yR (p q sg gl ll:Addr):qy (scK p q sg gl ll) (.inr "grounds")=some (.ref gl):=(jt (show (aI (ag "reaches"):Key)≠aI (ag "grounds") by decide +kernel)).trans ((jt (show (aI (ag "rows"):Key)≠aI (ag "grounds") by decide +kernel)).trans ((jt (show (aI (ag "single"):Key)≠aI (ag "grounds") by decide +kernel)).trans (xg)))
theorem uC (p q sg gl ll:Addr):qy (scK p q sg gl ll) (.inr "leaps")=some (.ref ll):=(jt (show (aI (ag "reaches"):Key)≠aI (ag "leaps") by decide +kernel)).trans ((jt (show (aI (ag "rows"):Key)≠aI (ag "leaps") by decide +kernel)).trans ((jt (show (aI (ag "single"):Key)≠aI (ag "leaps") by decide +kernel)).trans ((jt (show (aI (ag "grounds"):Key)≠aI (ag "leaps") by decide +kernel)).trans (xg))))
def jq (ns:List (Int×Int)) (y:Int):Int:=((ns.filter λq=>decide (q.1<=y)).map (·.2)).sum
theorem kN:∀{ns:List (Int×Int)},(ns.map (·.1)).Nodup->∀{z:Int×Int},z∈ns->qG ns z.1=z.2
 | [],_,z,h=>by cases h
 | q::r,nd,z,h=>by
  rw [aH] at nd
  obtain ⟨h1,h2⟩:=List.nodup_cons.mp nd
  unfold qG
  rcases List.mem_cons.mp h with e | e
  ·rw [e,if_pos rfl]
  ·have ne:¬q.1=z.1:=λw=>h1 (by rw [w];exact b9 e)
   rw [if_neg ne]
   exact kN h2 e
theorem VJ {ns:List (Int×Int)}{i:Nat}{q:Key×V}(h:(ns.map kvI)[i]? = some q):∃z,ns[i]? = some z/\q=kvI z:=by
 rw [ar] at h
 cases e:ns[i]? with
 | none=>rw [e] at h;cases h
 | some z=>rw [e] at h;cases h;exact ⟨z,rfl,rfl⟩
theorem Z2 (y:Int):jq [] y=0:=rfl
theorem jO (q:Int×Int) (r:List (Int×Int)) (y:Int):jq (q::r) y=(if q.1<=y then q.2 else 0)+jq r y:=by
 unfold jq
 rw [List.filter_cons]
 by_cases h:q.1<=y
 ·rw [decide_eq_true h,if_pos rfl,if_pos h,aH,lQ]
 ·rw [decide_eq_false h,if_neg aq,if_neg h,iS]
theorem yK {ms ns:List (Int×Int)}(p:ms.Perm ns) (y:Int):jq ms y=jq ns y:=by
 induction p with
 | nil=>rfl
 | cons q _ ih=>rw [jO,jO,ih]
 | swap a b r=>rw [jO,jO,jO,jO];omega
 | trans _ _ a b=>rw [a,b]
theorem gk {ns:List (Int×Int)}(h:∀q∈ns,0<=q.2) (y:Int):0<=jq ns y:=by
 induction ns with
 | nil=>exact cV _
 | cons q r ih =>
  rw [jO]
  have:=h q (aC ..)
  have:=ih λz hz=>h z (az _ hz)
  by_cases e:q.1<=y
  ·rw [if_pos e];omega
  ·rw [if_neg e];omega
theorem QA {ns:List (Int×Int)}{y:Int}(h:∀q∈ns,y<q.1):jq ns y=0:=by
 induction ns with
 | nil=>rfl
 | cons q r ih =>
  have a:=h q (aC ..)
  rw [jO,if_neg (),ih λz hz=>h z (az _ hz)]
  rfl
theorem uZ:∀(ms:List (Int×Int)) (st ad goal:Int),(∀q∈ms,st<=q.1)->(ms.map (·.1)).Pairwise (· <= ·)->st<=js st ad ms goal
 | [],st,ad,goal,_,_=>by unfold js;split <;> omega
 | q::r,st,ad,goal,h,p=>by
  unfold js
  have a:=h q (aC ..)
  rw [aH,dS] at p
  by_cases e:goal-ad<q.1
  ·rw [if_pos e];split <;> omega
  ·rw [if_neg e]
   have:=uZ r q.1 (ad+q.2) goal (λz hz=>p.1 _ (b9 hz)) p.2
   omega
theorem ke:∀(ms:List (Int×Int)) (st ad goal y:Int),(∀q∈ms,st<=q.1/\0<=q.2)->(ms.map (·.1)).Pairwise (· < ·)->st<=y->(goal<=y+ad+jq ms y↔js st ad ms goal<=y)
 | [],st,ad,goal,y,_,_,hy=>by rw [Z2];unfold js;split <;> omega
 | q::r,st,ad,goal,y,h,p,hy=>by
  have a:=h q (aC ..)
  have hr:∀z∈r,0<=z.2:=λz hz=>(h z (az _ hz)).2
  rw [aH,dS] at p
  have gt:∀z∈r,q.1<z.1:=λz hz=>p.1 _ (b9 hz)
  have sn:=gk hr y
  rw [jO]
  unfold js
  by_cases hq:q.1<=y
  ·rw [if_pos hq]
   by_cases e:goal-ad<q.1
   ·rw [if_pos e];split <;> omega
   ·rw [if_neg e]
    have ih:=ke r q.1 (ad+q.2) goal y (λz hz=>⟨mG (gt z hz),hr z hz⟩) p.2 hq
    constructor
    ·intro z;exact ih.mp ()
    ·intro z;have:=ih.mpr z;omega
  ·rw [if_neg hq,QA λz hz=>by have:=gt z hz;omega]
   by_cases e:goal-ad<q.1
   ·rw [if_pos e];split <;> omega
   ·rw [if_neg e]
    have g:=uZ r q.1 (ad+q.2) goal (λz hz=>mG (gt z hz)) (p.2.imp λh=>mG h)
    omega
theorem xi:∀{l:List Int},l.Pairwise (· <= ·)->l.Nodup->l.Pairwise (· < ·)
 | [],_,_=>.nil
 | x::r,p,n=>by
  rw [dS] at p ⊢
  obtain ⟨n1,n2⟩:=List.nodup_cons.mp n
  refine ⟨λy hy=>?_,xi p.2 n2⟩
  have:=p.1 y hy
  have:x≠y:=λe=>n1 (e ▸ hy)
  omega
def vc (CY:Addr):Sp:=λvs H Q E=>∃y:Int,vs=[.int y]/\(0<=y->y<=10 ^ 40->Q .non H)/\(y<0\/10 ^ 40<y->E (.ref CY) none H)
theorem wx:FnScope ["year"] ["year"] (j8 zh):=by walk_at "s"
theorem wd {f CY:Addr}{fd:FuncData}{u0:Tok}(g_LAST_ASKED:mg "LAST_ASKED" = some (.int 10000000000000000000000000000000000000000 u0)) (e_BadYear:mg "BadYear" = some (.ref CY)) (x_BadYear:cI K CY [.type "ValueError",.type "Exception",.type "BaseException",.type "object"] "ValueError.__new__" = true) (F:Fun K "check_asked" "check_asked" zh f fd):FnOk P w K mg base (CX1 P w) 1 f fd ["year"] (vc CY):=by
 refine Fun.okX F wx (λvs H Q E h=>?_) (λcdv A outer s H vs Q E hr h=>?_)
 ·obtain ⟨y,rfl,_⟩:=h
  rfl
 ·obtain ⟨y,rfl,k,kx⟩:=h
  refine ⟨_,(j9 (qj (qT (x5 qq qq j6 (pv 0) (qX (v:=V.int 10000000000000000000000000000000000000000) rfl g_LAST_ASKED ⟨_,rfl⟩))) (j9 (xl bo x_BadYear e_BadYear rfl xH rfl (j0 jw j2))) jD)),?_⟩
  walk_at "r"
  refine qS (λh0=>?_) (λh0=>?_)
  ·walk_at "r"
   refine zy (λh1=>?_) (λh1=>?_)
   ·walk_at "r"
    exact ⟨by show 1<=sizeLine;decide,kx (.inr ())⟩
   ·walk_at "r"
    exact k h0 h1
  ·walk_at "r"
   refine wL ?_
   walk_at "r"
   exact ⟨by show 1<=sizeLine;decide,kx (.inl ())⟩
def wB:Sp:=λvs H Q _=>∃(p:Addr) (out:List V) (ms:List (Int×Int)) (y:Int),vs=[.ref p,.int y]/\H p=some (.lst out)/\uT H out ms/\ms.length<=100/\(∀q∈ms,0<=q.2/\q.2<=9)/\∀H',jn H H'->Q (.int (y+jq ms y)) H'
theorem Qe:FnScope ["surges","year"] ["surges","year"] (j8 yk):=by walk_at "s"
theorem Qo {f:Addr}{fd:FuncData}(nb:Nb2 mg) (F:Fun K "ride_by" "ride_by" yk f fd):FnOk P w K mg base CX0 1 f fd ["surges","year"] wB:=by
 refine F.ok Qe (λvs H Q E h=>?_) (λcdv A outer s H vs Q E hr h=>?_)
 ·obtain ⟨p,out,ms,y,rfl,_⟩:=h
  rfl
 ·obtain ⟨p,out,ms,y,rfl,hp,hq,h100,h9,k⟩:=h
  have hlen:out.length=ms.length:=aP hq
  refine ⟨_,(j9 (jj (jo jJ (pv 1) (jg (Jm K rfl) rfl nb.b_sum boot_sum (j0 (jX (osc:=(j8 yk)) (ON:=["surges","year"]) (N:=["when","many","year"]) (own:=2) (caps:=[1]) ⟨rfl,∅,∅,∅,rfl,∅⟩ rfl rfl rfl (jW K (pv 0)) (λ_ _ _ _ _=>(qI (n:=2) K rfl (jr (jc (i:=0) (show bj (["when","many","year"]:List Str) by decide +kernel) rfl (aS rfl)) (jr (jc (i:=1) (show bj (["when","many","year"]:List Str) by decide +kernel) rfl (aS rfl)) qN)))) (λ_ _ _ _ _=>(w9 (jI qq (pv 0) (pv 2) (qe _)))) (λ_ _ _ _ _=>(pv 1))) j2))))),?_⟩
  walk_at "r"
  refine ⟨⟨_,SqL.of hp⟩,λacc hacc=>?_⟩
  refine qg (K:=K) (a:=p) (xs:=out) (acc:=acc) (λi σ H2=>∃x x2:Option V,σ=[x,x2,some (.int y)]/\H2 acc=some (.lst ((((ms.take i).filter λq=>decide (q.1<=y)).map (·.2)).map V.int))/\Ext acc H H2) ?_ ?_ ?_ ?_
  ·exact ⟨none,none,rfl,j7,Ext.put⟩
  ·rintro i σ H2 hi ⟨x,x2,rfl,h2,e2⟩
   exact SqL.of (e2 _ _ hp (j1 hp hacc))
  ·rintro i v σ H2 hv ⟨x,x2,rfl,h2,e2⟩
   obtain ⟨m,hm,b,rfl,hb⟩:=Paired.get hq hv
   have hi:=(List.getElem?_eq_some_iff.mp hm).1
   have hl2:((((ms.take i).filter λq=>decide (q.1<=y)).map (·.2)).map V.int).length<=100:=by
    rw [af,af]
    exact aG (cj _ _) (by rw [aW];omega)
   walk_at "r"
   refine ⟨b,_,rfl,SqT.of (e2 _ _ hb (j1 hb hacc)),rfl,?_⟩
   refine ⟨_,_,rfl,_,_,rfl,rfl,?_⟩
   walk_at "r"
   refine qS (λle=>?_) (λle=>?_)
   ·walk_at "r"
    refine ⟨_,h2,bN hl2 ⋯,_,_,rfl,?_,e2.trans Ext.put⟩
    rw [j7,c8,hm,fV,cK,iz (by rw [decide_eq_true le]),aE,aE]
    rfl
   ·refine ⟨_,_,rfl,?_,e2⟩
    rw [c8,hm,fV,cK,iu (by rw [decide_eq_false le];exact aq),List.filter_nil,br]
    exact h2
  ·rintro σ H2 ⟨x,x2,rfl,h2,e2⟩
   rw [hlen,bb] at h2
   walk_at "r"
   refine ⟨acc,_,rfl,SqL.of h2,?_,λn hn=>?_,?_⟩
   ·rw [af]
    exact aG (cj _ _) ()
   ·obtain ⟨z,hz,rfl⟩:=List.mem_map.mp hn
    have:=h9 z (List.mem_filter.mp hz).1
    exact ⟨this.1,Int.le_trans this.2 ⋯⟩
   ·exact ⟨_,_,rfl,rfl,k H2 λc o hc=>e2 c o hc (j1 hc hacc)⟩
def XG (g:IceG) (l:Int) (ns:List (Int×Int)):Prop:=0<=l/\l<(g.slopes.length:Int)/\(∃a,g.lds[l.toNat]? = some (a,ns.map kvI))/\(ns.map (·.1)).Nodup/\ns.length<64/\∀q∈ns,0<=q.2/\q.2<=9
def Jb (C CN CY:Addr):Sp:=λvs H Q E=>∃(p:Addr) (g:IceG) (l y:Int),vs=[.ref p,.int l,.int y]/\IceAt C H p g/\g.lds.length=g.slopes.length/\(l<0\/(g.slopes.length:Int)<=l->E (.ref CN) none H) /\
 (0<=l->l<(g.slopes.length:Int)->∃ns,XG g l ns/\(∀H',jn H H'->y<0\/10 ^ 40<y->E (.ref CY) none H')/\∀H',jn H H'->0<=y->y<=10 ^ 40->Q (.int (y+jq ns y)) H')
theorem kJ:FnScope ["ice","lane","year","surges"] ["ice","lane","year"] (j8 wE):=by walk_at "s"
theorem Xr {f C CN CY:Addr}{fd:FuncData}(cl_Ice:Cls K C) (c_Ice__surges:CalMX P w K mg base 2 C "surges" ["self","lane"] (ym C CN)) (c_check_asked:CalX P w K mg base 1 "check_asked" ["year"] (vc CY)) (c_ride_by:Cal P w K mg base 1 "ride_by" ["surges","year"] wB) (F:Fun K "ridden" "ridden" wE f fd):FnOk P w K mg base (CX1 P w) 3 f fd ["ice","lane","year"] (Jb C CN CY):=by
 refine Fun.okX F kJ (λvs H Q E h=>?_) (λcdv A outer s H vs Q E hr h=>?_)
 ·obtain ⟨p,g,l,y,rfl,_⟩:=h
  rfl
 ·obtain ⟨p,g,l,y,rfl,I,hll,kx,k⟩:=h
  refine ⟨_,(j4 (ju 3 kJ.nd (zp (pv 0) cl_Ice c_Ice__surges (hr.mono ⋯) qt (j0 (pv 1) j2)))
   (j4 (jU (xw c_check_asked (hr.mono ⋯) qt rfl (j0 (pv 2) j2)))
   (j9 (jj (jd c_ride_by (hr.mono ⋯) rfl (j0 (pv 3) (j0 (pv 2) j2))))))),?_⟩
  walk_at "r"
  refine ⟨p,g.dx,_,rfl,I.ob,qz ∅,?_⟩
  walk_at "r"
  refine ⟨p,g,l,rfl,I,hll,λhb=>kx hb,λl0 l1=>?_⟩
  obtain ⟨ns,⟨_,_,⟨a,ha⟩,nd,h64,h9⟩,ky,k⟩:=k l0 l1
  refine ⟨a,ns,ha,nd,h64,λo H1 out ms ho ho1 hq s1 hp hs=>?_⟩
  walk_at "r"
  refine ⟨λy0 y1=>?_,λhb=>ky H1 s1 hb⟩
  walk_at "r"
  refine ⟨o,out,ms,y,rfl,ho1,hq,(by rw [hp.length_eq];omega),λq hq'=>h9 q (hp.mem_iff.mp hq'),λH2 s2=>?_⟩
  rw [yK hp]
  exact k H2 (s1.trans s2) y0 y1
def kvA (z:Int×Addr):Key×V:=(.inl z.1,.ref z.2)
def qC {α:Type}(l:List (Int×α)) (y:Int) (a:α):List (Int×α):=if (l.any λz=>decide (z.1=y))=true then l.map (λz=>if z.1=y then (z.1,a) else z) else l++[(y,a)]
theorem vv {α:Type}(f:α->V) (l:List (Int×α)) (y:Int) (a:α):qf (l.map λz=>((.inl z.1,f z.2):Key×V)) (.inl y) (f a)=(qC l y a).map λz=>((.inl z.1,f z.2):Key×V):=by
 have e:∀z:Int,decide ((cX z:Key)=cX y)=decide (z=y):=λz=>decide_eq_decide.mpr ⟨λh=>dU h,λh=>by rw [h]⟩
 have e1:((l.map λz=>((.inl z.1,f z.2):Key×V)).any λkv=>decide (kv.1=(cX y:Key)))=l.any λz=>decide (z.1=y):=by
  rw [List.any_map]
  congr 1
  funext z
  exact e z.1
 unfold qf qC
 rw [e1]
 by_cases h:(l.any λz=>decide (z.1=y))=true
 ·rw [if_pos h,if_pos h,bB,bB]
  refine cD λz _=>?_
  show (if (cX z.1:Key)=cX y then _ else _)=_
  by_cases hz:z.1=y
  ·rw [if_pos (by rw [hz])]
   show _=(λz:Int×α=>((.inl z.1,f z.2):Key×V)) (if z.1=y then (z.1,a) else z)
   rw [if_pos hz]
  ·rw [if_neg (λw=>hz (dU w))]
   show _=(λz:Int×α=>((.inl z.1,f z.2):Key×V)) (if z.1=y then (z.1,a) else z)
   rw [if_neg hz]
 ·rw [if_neg h,if_neg h,aE]
  rfl
theorem yc {α:Type}{l:List (Int×α)}{y:Int}{a:α}{z:Int×α}(h:z∈qC l y a):z∈l\/z=(y,a):=by
 unfold qC at h
 by_cases c:(l.any λz=>decide (z.1=y))=true
 ·rw [if_pos c] at h
  obtain ⟨u,hu,e⟩:=List.mem_map.mp h
  by_cases q:u.1=y
  ·rw [if_pos q,q] at e
   exact .inr e.symm
  ·rw [if_neg q] at e
   exact .inl (e ▸ hu)
 ·rw [if_neg c] at h
  rcases List.mem_append.mp h with q | q
  ·exact .inl q
  ·exact .inr (by simpa using q)
theorem vm {α:Type}(l:List (Int×α)) (y:Int) (a:α):(qC l y a).length<=l.length+1:=by
 unfold qC
 split
 ·rw [af];omega
 ·rw [av];exact ao _
theorem yT {α:Type}{l:List (Int×α)}{y:Int}{a:α}(h:(l.map (·.1)).Nodup):((qC l y a).map (·.1)).Nodup:=by
 unfold qC
 by_cases c:(l.any λz=>decide (z.1=y))=true
 ·rw [if_pos c,bB]
  have:(l.map ((λx=>x.1) ∘ λz=>if z.1=y then (z.1,a) else z))=l.map (·.1):=cD λz _=>by
   show (if z.1=y then (z.1,a) else z).1=z.1
   split <;> rfl
  rw [this]
  exact h
 ·rw [if_neg c,aE]
  refine vo h λz=>c ?_
  obtain ⟨u,hu,e⟩:=List.mem_map.mp z
  exact List.any_eq_true.mpr ⟨u,hu,decide_eq_true e⟩
structure ScN where
 p:Addr
 q:Addr
 sg:Addr
 gl:Addr
 ll:Addr
 xs:List V
 ys:List V
 zs:List V
 rs:List Rch
 ts:List T3
 ws:List (List Int)
 sk:List (Int×Addr)
 lds:List (Addr×List (Int×Int))
structure ScAt (H:Hp) (sd:Addr) (c:ScN):Prop where
 sd:H sd=some (.dK (scK c.p c.q c.sg c.gl c.ll))
 p:H c.p=some (.lst c.xs)
 rv:jN H c.xs c.rs
 q:H c.q=some (.lst c.ys)
 r3:qh H c.ys c.ts
 gl:H c.gl=some (.lst c.zs)
 gi:zN H c.zs (c.ws.map (ja c.rs))
 ll:H c.ll=some (.lst (c.lds.map λx=>V.ref x.1))
 sg:Rd H c.sg (.dK (c.sk.map kvA))
 sk:∀z∈c.sk,∃t,H z.2=some (zj t)/\good t=true
 ld:∀x∈c.lds,Rd H x.1 (.dK (x.2.map kvI))
structure ScOk (b:Addr) (c:ScN):Prop where
 gr:Grown c.rs
 l1:1<=c.rs.length
 l8:c.rs.length<=8
 t1:1<=c.ts.length
 t2:c.ts.length<=12
 tg:c.ts.all good=true
 ro:jQ c.rs c.ws
 ldl:c.lds.length=c.ws.length
 nd:(c.lds.map (·.1)).Nodup
 ns:∀x∈c.lds,x.1≠c.sg
 pb:c.p≠b
 qb:c.q≠b
 gb:c.gl≠b
 lb:c.ll≠b
 zb:V.ref b∉c.zs
 k1:(c.sk.map (·.1)).Nodup
 k2:∀z∈c.sk,0<=z.1/\z.1<=99
 k3:c.sk.length<=10
 m1:∀x∈c.lds,(x.2.map (·.1)).Nodup
 m2:∀x∈c.lds,∀z∈x.2,0<=z.1/\z.1<=99/\1<=z.2/\z.2<=9
 m3:∀x∈c.lds,x.2.length<=10
def Fr3 (N M:Addr->Prop) (H H':Hp):Prop:=∀c o,H c=some o->¬N c->H' c=some o\/(M c/\∃ob kvs,o = .dK kvs/\H' c=some (.frz ob (.dK kvs)))
theorem Fr3.at {N M:Addr->Prop}{H H':Hp}(f:Fr3 N M H H') {c:Addr}{o:HO}(h:H c=some o) (n:¬N c) (d:∀kvs,o≠.dK kvs):H' c=some o:=by
 rcases f c o h n with h1 | ⟨_,ob,kvs,e,_⟩
 ·exact h1
 ·exact absurd e (d kvs)
theorem Fr3.rd {N M:Addr->Prop}{H H':Hp}(f:Fr3 N M H H') {c:Addr}{kvs:List (Key×V)}(n:¬N c) (h:Rd H c (.dK kvs)):Rd H' c (.dK kvs):=by
 rcases h with h | ⟨o,h⟩
 ·rcases f c _ h n with h1 | ⟨_,ob,kvs',e,h1⟩
  ·exact .inl h1
  ·cases e
   exact .inr ⟨ob,h1⟩
 ·exact .inr ⟨o,f.at h n (by walk_at "w")⟩
theorem pmM {α β:Type}{F G:α->β->Prop}:∀{l₁:List α}{l₂:List β},cf F l₁ l₂->(∀v∈l₁,∀w,F v w->G v w)->cf G l₁ l₂
 | _,_,.nil,_=>.nil
 | _,_,.cons q r,h=>.cons (h _ (aC ..) _ q) (pmM r λv hv=>h v (az _ hv))
theorem ScAt.keep {N M:Addr->Prop}{H H':Hp}{sd:Addr}{c:ScN}(S:ScAt H sd c) (f:Fr3 N M H H') (nT:∀a xs,H a=some (.tup xs)->¬N a) (nsd:¬N sd) (msd:¬M sd) (np:¬N c.p) (nq:¬N c.q) (ng:¬N c.gl) (nl:¬N c.ll) (nz:∀a,V.ref a∈c.zs->¬N a) (ns:¬N c.sg) (nd:∀x∈c.lds,¬N x.1):ScAt H' sd c:=by
 have t:∀a xs,H a=some (.tup xs)->H' a=some (.tup xs):=λa xs h=>f.at h (nT a xs h) (by walk_at "w")
 refine ⟨?_,f.at S.p np (by walk_at "w"),S.rv.keep t,f.at S.q nq (by walk_at "w"),S.r3.imp λ_ _ h=>t _ _ h,f.at S.gl ng (by walk_at "w"),pmM S.gi λv hv w ⟨a,ea,q⟩=>⟨a,ea,f.at q (nz a (ea ▸ hv)) (by walk_at "w")⟩,f.at S.ll nl (by walk_at "w"),f.rd ns S.sg,λz hz=>?_,λx hx=>f.rd (nd x hx) (S.ld x hx)⟩
 ·rcases f _ _ S.sd nsd with z | ⟨z,_⟩
  ·exact z
  ·exact absurd z msd
 ·obtain ⟨u,hu,g⟩:=S.sk z hz
  exact ⟨u,t _ _ hu,g⟩
theorem ScAt.same {H H':Hp}{sd:Addr}{c:ScN}(S:ScAt H sd c) (s:jn H H'):ScAt H' sd c :=
 S.keep (N:=λ_=>False) (M:=λ_=>False) (λc o h _=>.inl (s c o h)) (λ_ _ _ z=>z) id id id id id id (λ_ _=>id) id (λ_ _=>id)
theorem ScAt.ext {L b:Addr}{H H':Hp}{sd:Addr}{c:ScN}(S:ScAt H sd c) (O:ScOk b c) (B:jR L H b) (e:Ext b H H'):ScAt H' sd c:=by
 obtain ⟨_,_,_,_,_,hb,_⟩:=B
 have nr:∀{a:Addr} {kvs:List (Key×V)},Rd H a (.dK kvs)->¬a=b:=λh z=>by
  rcases h with h | ⟨o,h⟩
  ·exact absurd z (jh h hb (by walk_at "z"))
  ·exact absurd z (jh h hb (by walk_at "z"))
 exact S.keep (N:=λa=>a=b) (M:=λ_=>False) (λc o h n=>.inl (e c o h n)) (λa xs h z=>absurd z (jh h hb (by walk_at "z"))) (jh S.sd hb (by walk_at "z")) id O.pb O.qb O.gb O.lb (λa h z=>O.zb (z ▸ h)) (nr S.sg) λx hx=>nr (S.ld x hx)
def ScN.D (c:ScN) (a:Addr):Prop:=a=c.sg\/∃x∈c.lds,x.1=a
theorem Ui {p q sg gl ll:Addr}{α:Type}{f:α->V}{l:List (Int×α)}:scK p q sg gl ll≠l.map λz=>((.inl z.1,f z.2):Key×V):=λz=>by
 cases l with
 | nil=>cases z
 | cons u r =>
  have:=congrArg (λl=>l.head?.map (·.1)) z
  cases this
theorem Xe {H:Hp}{sd a p q sg gl ll:Addr}{α:Type}{f:α->V}{l:List (Int×α)}(h:H sd=some (.dK (scK p q sg gl ll))) (r:Rd H a (.dK (l.map λz=>((.inl z.1,f z.2):Key×V)))):a≠sd:=λz=>by
 subst z
 rcases r with r | ⟨o,r⟩
 ·rw [r] at h
  have e:l.map (λz=>((.inl z.1,f z.2):Key×V))=scK p q sg gl ll:=by injection h with h;injection h
  exact Ui e.symm
 ·rw [r] at h
  cases h
theorem ScAt.nD {H:Hp}{sd:Addr}{c:ScN}(S:ScAt H sd c):¬c.D sd:=λz=>by
 rcases z with z | ⟨x,hx,e⟩
 ·exact Xe (f:=V.ref) S.sd S.sg z.symm
 ·exact Xe (f:=V.int) S.sd (S.ld x hx) e
structure ScB (L b:Addr) (H H2:Hp) (sd:Addr) (c:ScN):Prop where
 S:ScAt H2 sd c
 O:ScOk b c
 r1:H2 c.sg=some (.dK (c.sk.map kvA))
 r2:∀x∈c.lds,H2 x.1=some (.dK (x.2.map kvI))
 B:jR L H2 b
 X:Ext b H H2
 f1:H c.sg=none
 f2:∀x∈c.lds,H x.1=none
theorem ScB.take {L b:Addr}{H H2 H3:Hp}{sd:Addr}{c:ScN}(S:ScB L b H H2 sd c) (B:jR L H3 b) (X:Ext b H2 H3):ScB L b H H3 sd c:=by
 have hb:∃xs,H2 b=some (.lst xs):=by
  obtain ⟨_,_,_,_,_,hb,_⟩:=S.B
  exact ⟨_,hb⟩
 obtain ⟨_,hb⟩:=hb
 exact ⟨S.S.ext S.O S.B X,S.O,X _ _ S.r1 (jh S.r1 hb (by walk_at "z")),λx hx=>X _ _ (S.r2 x hx) (jh (S.r2 x hx) hb (by walk_at "z")),B,S.X.trans X,S.f1,S.f2⟩
theorem ScB.same {L b:Addr}{H H2 H3:Hp}{sd:Addr}{c:ScN}(S:ScB L b H H2 sd c) (s:jn H2 H3):ScB L b H H3 sd c:=S.take (S.B.same s) (Ext.of_same s)
theorem qa {L b:Addr}{Ha Hb:Hp}(B:jR L Ha b) (e:Ext b Ha Hb):ji Ha Hb:=by
 obtain ⟨ns,a,r,c,d,h1,_⟩:=B
 exact ji.lst e h1
theorem ScB.single {L b:Addr}{H H2:Hp}{sd t:Addr}{c:ScN}{y:Int}{r:T3}(S:ScB L b H H2 sd c) (y0:0<=y) (y1:y<=99) (ht:H2 t=some (zj r)) (hg:good r=true) (hl:c.sk.length+1<=10) :
  ScB L b H (upd H2 c.sg (.dK (qf (c.sk.map kvA) (.inl y) (.ref t)))) sd { c with sk:=qC c.sk y t }:=by
 have e:qf (c.sk.map kvA) (.inl y) (.ref t)=(qC c.sk y t).map kvA:=vv V.ref c.sk y t
 rw [e]
 have nT:∀{a:Addr} {o:HO},H2 a=some o->(∀kvs,o≠.dK kvs)->(upd H2 c.sg (.dK ((qC c.sk y t).map kvA))) a=some o:=λh n=>by rw [j5 (jh h S.r1 (n _))];exact h
 have sdn:sd≠c.sg:=(Xe (f:=V.ref) S.S.sd S.S.sg).symm
 have hb:∃xs,H2 b=some (.lst xs):=by
  obtain ⟨_,_,_,_,_,hb,_⟩:=S.B
  exact ⟨_,hb⟩
 obtain ⟨_,hb⟩:=hb
 have hL:∃xs,H2 L=some (.lst xs):=by
  obtain ⟨_,_,_,_,_,_,_,hL,_⟩:=S.B
  exact ⟨_,hL⟩
 obtain ⟨_,hL⟩:=hL
 refine ⟨⟨by rw [j5 sdn];exact S.S.sd,nT S.S.p (by walk_at "w"),S.S.rv.keep λ_ _ h=>nT h (by walk_at "w"),nT S.S.q (by walk_at "w"),S.S.r3.imp λ_ _ h=>nT h (by walk_at "w"),nT S.S.gl (by walk_at "w"),pmM S.S.gi λv hv w ⟨a,ea,q⟩=>⟨a,ea,nT q (by walk_at "w")⟩,nT S.S.ll (by walk_at "w"),.inl j7,λz hz=>?_,λx hx=>.inl (by rw [j5 (S.O.ns x hx)];exact S.r2 x hx)⟩,?_,j7,λx hx=>by rw [j5 (S.O.ns x hx)];exact S.r2 x hx,S.B.put (jh S.r1 hb (by walk_at "z")) (jh S.r1 hL (by walk_at "z")),λd o hd n=>?_,S.f1,S.f2⟩
 ·rcases yc hz with z | z
  ·obtain ⟨u,hu,g⟩:=S.S.sk _ z
   exact ⟨u,nT hu (by walk_at "w"),g⟩
  ·subst z
   exact ⟨r,nT ht (by walk_at "w"),hg⟩
 ·have O:=S.O
  exact ⟨O.gr,O.l1,O.l8,O.t1,O.t2,O.tg,O.ro,O.ldl,O.nd,O.ns,O.pb,O.qb,O.gb,O.lb,O.zb,yT O.k1,λz hz=>by
   rcases yc hz with q | q
   ·exact O.k2 z q
   ·subst q;exact ⟨y0,y1⟩,aG (vm _ _ _) hl,O.m1,O.m2,O.m3⟩
 ·rw [j5 (j1 hd S.f1)]
  exact S.X d o hd n
theorem vk {α β:Type}{l:List (α×β)}{n:Nat}{a:α}{u v:β}(nd:(l.map (·.1)).Nodup) (hn:l[n]? = some (a,u)) {x:α×β}(hx:x∈l.set n (a,v)):x=(a,v)\/(x∈l/\x.1≠a):=by
 obtain ⟨i,hi,e⟩:=List.mem_iff_getElem.mp hx
 have hi':i<l.length:=by rw [cQ] at hi;exact hi
 obtain ⟨hn1,hn2⟩:=List.getElem?_eq_some_iff.mp hn
 by_cases q:n=i
 ·subst q
  rw [List.getElem_set_self] at e
  exact .inl e.symm
 ·rw [List.getElem_set_ne q] at e
  refine .inr ⟨e ▸ bH hi',λz=>q ?_⟩
  have h1:(l.map (·.1))[n]'(by rw [af];exact hn1)=(l.map (·.1))[i]'(by rw [af];exact hi'):=by
   rw [d6,d6,hn2,e,z]
  rcases Nat.lt_trichotomy n i with g | g | g
  ·exact absurd h1 (List.pairwise_iff_getElem.mp nd n i _ _ g)
  ·exact g
  ·exact absurd h1.symm (List.pairwise_iff_getElem.mp nd i n _ _ g)
theorem QM {α β:Type}{l:List (α×β)}{n:Nat}{a:α}{u v:β}(hn:l[n]? = some (a,u)):(l.set n (a,v)).map (·.1)=l.map (·.1):=by
 obtain ⟨hn1,hn2⟩:=List.getElem?_eq_some_iff.mp hn
 rw [List.map_set]
 refine i5 λi=>?_
 rw [dw]
 by_cases q:n=i
 ·subst q
  rw [if_pos rfl,if_pos (by rw [af];exact hn1),ar,hn]
  rfl
 ·rw [if_neg q]
theorem ScB.leap {L b:Addr}{H H2:Hp}{sd a:Addr}{c:ScN}{n:Nat}{y m:Int}{ns:List (Int×Int)}(S:ScB L b H H2 sd c) (hn:c.lds[n]? = some (a,ns)) (y0:0<=y) (y1:y<=99) (m0:1<=m) (m1:m<=9) (hl:ns.length+1<=10) :
  ScB L b H (upd H2 a (.dK (qf (ns.map kvI) (.inl y) (.int m)))) sd { c with lds:=c.lds.set n (a,qC ns y m) }:=by
 have e:qf (ns.map kvI) (.inl y) (.int m)=(qC ns y m).map kvI:=vv V.int ns y m
 rw [e]
 have hm:=au hn
 have ra:=S.r2 _ hm
 have nT:∀{d:Addr} {o:HO},H2 d=some o->(∀kvs,o≠.dK kvs)->(upd H2 a (.dK ((qC ns y m).map kvI))) d=some o:=λh n=>by rw [j5 (jh h ra (n _))];exact h
 have sdn:sd≠a:=(Xe (f:=V.int) S.S.sd (S.S.ld _ hm)).symm
 have hb:∃xs,H2 b=some (.lst xs):=by
  obtain ⟨_,_,_,_,_,hb,_⟩:=S.B
  exact ⟨_,hb⟩
 obtain ⟨_,hb⟩:=hb
 have hL:∃xs,H2 L=some (.lst xs):=by
  obtain ⟨_,_,_,_,_,_,_,hL,_⟩:=S.B
  exact ⟨_,hL⟩
 obtain ⟨_,hL⟩:=hL
 have fs:=QM (v:=qC ns y m) hn
 have fs2:(c.lds.set n (a,qC ns y m)).map (λx=>V.ref x.1)=c.lds.map λx=>V.ref x.1:=by
  have:=congrArg (List.map V.ref) fs
  rw [bB,bB] at this
  exact this
 have sg:c.sg≠a:=(S.O.ns _ hm).symm
 have r2:∀x∈c.lds.set n (a,qC ns y m),(upd H2 a (.dK ((qC ns y m).map kvI))) x.1=some (.dK (x.2.map kvI)):=λx hx=>by
  rcases vk S.O.nd hn hx with z | ⟨z,w⟩
  ·subst z
   exact j7
  ·rw [j5 w]
   exact S.r2 x z
 have mem:∀x∈c.lds.set n (a,qC ns y m),∃x'∈c.lds,x'.1=x.1:=λx hx=>by
  have:x.1∈(c.lds.set n (a,qC ns y m)).map (·.1):=b9 hx
  rw [fs] at this
  exact List.mem_map.mp this
 have O:=S.O
 refine ⟨⟨by rw [j5 sdn];exact S.S.sd,nT S.S.p (by walk_at "w"),S.S.rv.keep λ_ _ h=>nT h (by walk_at "w"),nT S.S.q (by walk_at "w"),S.S.r3.imp λ_ _ h=>nT h (by walk_at "w"),nT S.S.gl (by walk_at "w"),pmM S.S.gi λv hv w ⟨a,ea,q⟩=>⟨a,ea,nT q (by walk_at "w")⟩,?_,.inl (by show upd _ _ _ c.sg=_;rw [j5 sg];exact S.r1),λz hz=>?_,λx hx=>.inl (r2 x hx)⟩,⟨O.gr,O.l1,O.l8,O.t1,O.t2,O.tg,O.ro,?_,?_,?_,O.pb,O.qb,O.gb,O.lb,O.zb,O.k1,O.k2,O.k3,?_,?_,?_⟩,(by show upd _ _ _ c.sg=_;rw [j5 sg];exact S.r1),r2,S.B.put (jh ra hb (by walk_at "z")) (jh ra hL (by walk_at "z")),λd o hd n=>?_,S.f1,?_⟩
 ·show _=some (HO.lst ((c.lds.set n (a,qC ns y m)).map λx=>V.ref x.1))
  rw [fs2]
  exact nT S.S.ll (by walk_at "w")
 ·obtain ⟨u,hu,g⟩:=S.S.sk _ hz
  exact ⟨u,nT hu (by walk_at "w"),g⟩
 ·show (c.lds.set n (a,qC ns y m)).length=_
  rw [cQ]
  exact O.ldl
 ·show ((c.lds.set n (a,qC ns y m)).map (·.1)).Nodup
  rw [fs]
  exact O.nd
 ·intro x hx
  obtain ⟨x',h1,h2⟩:=mem x hx
  rw [<- h2]
  exact O.ns x' h1
 ·intro x hx
  rcases vk S.O.nd hn hx with z | ⟨z,w⟩
  ·subst z;exact yT (O.m1 _ hm)
  ·exact O.m1 x z
 ·intro x hx
  rcases vk S.O.nd hn hx with z | ⟨z,w⟩
  ·subst z
   intro u hu
   rcases yc hu with q | q
   ·exact O.m2 _ hm u q
   ·subst q;exact ⟨y0,y1,m0,m1⟩
  ·exact O.m2 x z
 ·intro x hx
  rcases vk S.O.nd hn hx with z | ⟨z,w⟩
  ·subst z;exact aG (vm _ _ _) hl
  ·exact O.m3 x z
 ·rw [j5 (j1 hd (S.f2 _ hm))]
  exact S.X d o hd n
 ·intro x hx
  obtain ⟨x',h1,h2⟩:=mem x hx
  rw [<- h2]
  exact S.f2 x' h1
theorem put4 {p q sg gl:Addr}:qf (qQ [] [(.inr "reaches",.ref p),(.inr "rows",.ref q),(.inr "single",.ref sg)]) (.inr "grounds") (.ref gl)=[((.inr "reaches",.ref p):Key×V),(.inr "rows",.ref q),(.inr "single",.ref sg),(.inr "grounds",.ref gl)]:=by
 have e1:(qf [] (.inr "reaches") (.ref p):List (Key×V))=[(.inr "reaches",.ref p)]:=ya _ zS
 have e2:qf [((.inr "reaches",.ref p):Key×V)] (.inr "rows") (.ref q)=[(.inr "reaches",.ref p),(.inr "rows",.ref q)]:=ya _ ((jt (show (aI (ag "reaches"):Key)≠aI (ag "rows") by decide +kernel)).trans zS)
 have e3:qf [((.inr "reaches",.ref p):Key×V),(.inr "rows",.ref q)] (.inr "single") (.ref sg)=[(.inr "reaches",.ref p),(.inr "rows",.ref q),(.inr "single",.ref sg)]:=ya _ ((jt (show (aI (ag "reaches"):Key)≠aI (ag "single") by decide +kernel)).trans ((jt (show (aI (ag "rows"):Key)≠aI (ag "single") by decide +kernel)).trans zS))
 have e4:qf [((.inr "reaches",.ref p):Key×V),(.inr "rows",.ref q),(.inr "single",.ref sg)] (.inr "grounds") (.ref gl)=[((.inr "reaches",.ref p):Key×V),(.inr "rows",.ref q),(.inr "single",.ref sg),(.inr "grounds",.ref gl)]:=ya _ ((jt (show (aI (ag "reaches"):Key)≠aI (ag "grounds") by decide +kernel)).trans ((jt (show (aI (ag "rows"):Key)≠aI (ag "grounds") by decide +kernel)).trans ((jt (show (aI (ag "single"):Key)≠aI (ag "grounds") by decide +kernel)).trans zS)))
 have e:qQ [] [((.inr "reaches",.ref p):Key×V),(.inr "rows",.ref q),(.inr "single",.ref sg)]=[(.inr "reaches",.ref p),(.inr "rows",.ref q),(.inr "single",.ref sg)]:=by
  show qf (qf (qf ([]:List (Key×V)) (.inr "reaches") (.ref p)) (.inr "rows") (.ref q)) (.inr "single") (.ref sg)=_
  rw [e1,e2,e3]
 rw [e,e4]
theorem put5 {p q sg gl ll:Addr}:qf [((.inr "reaches",.ref p):Key×V),(.inr "rows",.ref q),(.inr "single",.ref sg),(.inr "grounds",.ref gl)] (.inr "leaps") (.ref ll)=scK p q sg gl ll :=
 ya _ ((jt (show (aI (ag "reaches"):Key)≠aI (ag "leaps") by decide +kernel)).trans ((jt (show (aI (ag "rows"):Key)≠aI (ag "leaps") by decide +kernel)).trans ((jt (show (aI (ag "single"):Key)≠aI (ag "leaps") by decide +kernel)).trans ((jt (show (aI (ag "grounds"):Key)≠aI (ag "leaps") by decide +kernel)).trans zS))))
theorem JD (p q sg gl:Addr):qy [((.inr "reaches",.ref p):Key×V),(.inr "rows",.ref q),(.inr "single",.ref sg),(.inr "grounds",.ref gl)] (.inr "grounds")=some (.ref gl):=(jt (show (aI (ag "reaches"):Key)≠aI (ag "grounds") by decide +kernel)).trans ((jt (show (aI (ag "rows"):Key)≠aI (ag "grounds") by decide +kernel)).trans ((jt (show (aI (ag "single"):Key)≠aI (ag "grounds") by decide +kernel)).trans xg))
theorem QR {rs:List Rch}(G:Grown rs):∀r∈rs,r.2.length<=12:=λr hr=>by
 obtain ⟨i,hi,e⟩:=List.mem_iff_getElem.mp hr
 have:=gz G.ok (aa hi)
 rw [e] at this
 unfold okR at this
 rw [bh,bh] at this
 have:=of_decide_eq_true this.1.2
 omega
theorem Yt {v:Int}(a:0<=v) (b:v<3):∃n,atI [V.int 1,V.int 4,V.int 9] v=some (V.int n)/\0<n/\n<=9:=by
 have h:v=0\/v=1\/v=2:=()
 rcases h with rfl | rfl | rfl
 ·exact ⟨1,rfl,(),()⟩
 ·exact ⟨4,rfl,(),()⟩
 ·exact ⟨9,rfl,(),()⟩
theorem Yn {v:Int}(a:0<=v) (b:v<3):∃n,atI [V.int 1,V.int 3,V.int 7] v=some (V.int n)/\0<n/\n<=7:=by
 have h:v=0\/v=1\/v=2:=()
 rcases h with rfl | rfl | rfl
 ·exact ⟨1,rfl,(),()⟩
 ·exact ⟨3,rfl,(),()⟩
 ·exact ⟨7,rfl,(),()⟩
theorem Uz {v:Int}(a:0<=v) (b:v<2):∃n,atI [V.int 2,V.int 9] v=some (V.int n)/\0<n/\n<=9:=by
 have h:v=0\/v=1:=()
 rcases h with rfl | rfl
 ·exact ⟨2,rfl,(),()⟩
 ·exact ⟨9,rfl,(),()⟩
theorem k9 {rs:List Rch}(L:x4 rs) (h:1<=rs.length):1<=(jm rs).length:=by
 have:(rs.length-1)∈jm rs:=by
  refine List.mem_filter.mpr ⟨List.mem_range.mpr (),?_⟩
  unfold jG
  rw [decide_eq_false]
  ·rfl
  ·intro z
   have:=Qa L z
   omega
 exact eQ this
def Xc:Sp:=λvs H Q _=>∃(L b:Addr),vs=[.ref b]/\jR L H b/\∀sd H' c,jR L H' b->Ext b H H'->ScAt H' sd c->ScOk b c->Q (.ref sd) H'
theorem qK:FnScope ["_law_box_here","_law_reaches_here","_law_scene_here","_law_turn","_law_lane"] ["_law_box_here"] (j8 xD):=by walk_at "s"
theorem ZB {f:Addr}{fd:FuncData}(nb:Nb2 mg) (c_law_take:Cal P w K mg base 2 "_law_take" ["_law_box_here","_law_size"] xb) (c_law_reaches:Cal P w K mg base 4 "_law_reaches" ["_law_box_here"] uY) (c_law_round:Cal P w K mg base 4 "_law_round" ["_law_box_here"] uq) (c_law_ground:Cal P w K mg base 1 "_law_ground" ["_law_reaches_here","_law_road"] (Je K)) (c_law_roads:Cal P w K mg base 1 "_law_roads" ["_law_reaches_here"] (Jy K)) (c_law_year:Cal P w K mg base 3 "_law_year" ["_law_box_here"] JZ) (c_law_weather:Cal P w K mg base 3 "_law_weather" ["_law_box_here"] vY)
  (F:Fun K "_law_scene" "_law_scene" xD f fd):FnOk P w K mg base CX0 5 f fd ["_law_box_here"] Xc:=by
 refine F.ok qK (λvs H Q E h=>?_) (λcdv A outer s H vs Q E hr h=>?_)
 ·obtain ⟨L,b,rfl,_⟩:=h
  rfl
 ·obtain ⟨L,b,rfl,B,k⟩:=h
  refine ⟨_,(j4 (uQ (i:=1) qK.nd rfl (lq rfl) (jd c_law_reaches (hr.mono ⋯) rfl (j0 (pv 0) j2)))
   (j4 (ju 2 qK.nd (YC (uP jw (pv 1) (uP jw (jd c_law_round (hr.mono ⋯) rfl (j0 (pv 0) j2)) (uP jw vG YN))) rfl rfl (λz=>by cases z) ⋯))
   (j4 (xv (jK hr) (pv 2) jw (jX (osc:=(j8 xD)) (ON:=["_law_box_here","_law_reaches_here","_law_scene_here","_law_turn","_law_lane"]) (N:=["_law_road","_law_reaches_here"]) (own:=1) (caps:=[1]) ⟨rfl,∅,∅,∅,rfl,∅⟩ rfl rfl rfl (jW K (jd c_law_roads (hr.mono ⋯) rfl (j0 (pv 1) j2))) (λ_ _ _ _ _=>(jc (i:=0) (show bj (["_law_road","_law_reaches_here"]:List Str) by decide +kernel) rfl (aS rfl))) (λ_ _ _ _ _=>jF) (λ_ _ _ _ _=>(jd c_law_ground (hr.mono ⋯) rfl (j0 (pv 1) (j0 (pv 0) j2))))) rfl)
   (vB (xv (jK hr) (pv 2) jw (jX (osc:=(j8 xD)) (ON:=["_law_box_here","_law_reaches_here","_law_scene_here","_law_turn","_law_lane"]) (N:=["_law_ground_here"]) (own:=1) (caps:=[]) ⟨rfl,∅,∅,∅,rfl,∅⟩ rfl rfl rfl (jW K (jC (jK hr) (pv 2) jw (λ_ _=>rfl))) (λ_ _ _ _ _=>(jc (i:=0) (show bj (["_law_ground_here"]:List Str) by decide +kernel) rfl (aS rfl))) (λ_ _ _ _ _=>jF) (λ_ _ _ _ _=>vG)) rfl)
   (vB (xh bt rfl (qw rfl nb.b_range (j0 (jd c_law_take (hr.mono ⋯) rfl (j0 (pv 0) (j0 (jp (jb K) (jM (j0 j6 (j0 j6 (j0 j6 j2)))) (jd c_law_take (hr.mono ⋯) rfl (j0 (pv 0) (j0 j6 j2))) (λ_ _=>rfl)) j2))) j2)) (jc (i:=3) qK.nd rfl (aS rfl)) (j9 (xv (jK hr) (jC (jK hr) (pv 2) jw (λ_ _=>rfl)) (jd c_law_year (hr.mono ⋯) rfl (j0 (pv 0) j2)) (jd c_law_weather (hr.mono ⋯) rfl (j0 (pv 0) j2)) rfl)))
   (j4 (xh bt rfl (qw rfl nb.b_range (j0 (jd c_law_take (hr.mono ⋯) rfl (j0 (pv 0) (j0 (jp (jb K) (jM (j0 j6 (j0 j6 (j0 j6 j2)))) (jd c_law_take (hr.mono ⋯) rfl (j0 (pv 0) (j0 j6 j2))) (λ_ _=>rfl)) j2))) j2)) (jc (i:=3) qK.nd rfl (aS rfl)) (j4 (ju 4 qK.nd (jd c_law_take (hr.mono ⋯) rfl (j0 (pv 0) (j0 (jg (jf K) rfl nb.b_len aT (j0 (jC (jK hr) (pv 2) jw (λ_ _=>rfl)) j2)) j2))))
   (j9 (xv (jK hr) (jp (jb K) (jC (jK hr) (pv 2) jw (λ_ _=>rfl)) (pv 4) (λ_ _=>rfl)) (jd c_law_year (hr.mono ⋯) rfl (j0 (pv 0) j2)) (jo jJ j6 (jd c_law_take (hr.mono ⋯) rfl (j0 (pv 0) (j0 (jp (jb K) (jM (j0 j6 (j0 j6 j2))) (jd c_law_take (hr.mono ⋯) rfl (j0 (pv 0) (j0 j6 j2))) (λ_ _=>rfl)) j2)))) rfl))))
   (j9 (jj (pv 2))))))))),?_⟩
  walk_at "r"
  refine ⟨L,b,rfl,B,λp H1 xs rs B1 X1 hp hp1 r1 g1 l1 l8=>?_⟩
  have pb:p≠b:=B.ne hp
  walk_at "r"
  intro sd hsd
  have sdb:sd≠b:=B1.ne hsd
  have sd0:H sd=none:=X1.free hsd sdb
  walk_at "r"
  have Ba:jR L (upd H1 sd (.dK [])) b:=B1.put sdb (B1.neL hsd)
  refine ⟨L,b,rfl,Ba,λq Hb ys ts Bb Xb hq hqb r3b ht12 htg=>?_⟩
  have qb:q≠b:=Ba.ne hq
  have qsd:q≠sd:=λz=>by rw [z,j7] at hq;cases hq
  have sdB:Hb sd=some (.dK []):=Xb _ _ j7 sdb
  have pB:Hb p=some (.lst xs):=Xb _ _ (by rw [j5 (j1 hp1 hsd)];exact hp1) pb
  have rB:jN Hb xs rs:=(r1.keep (ji.same (jn.new hsd))).keep (qa Ba Xb)
  have XB:Ext b H Hb:=(X1.trans (Ext.new hsd)).trans Xb
  walk_at "r"
  intro sg hsg
  have sgb:sg≠b:=Bb.ne hsg
  have sg0:H sg=none:=XB.free hsg sgb
  have sgsd:sg≠sd:=(j1 sdB hsg).symm
  walk_at "r"
  refine ⟨by rw [j5 sgsd.symm];exact sdB,[(.inr "reaches",.ref p),(.inr "rows",.ref q),(.inr "single",.ref sg)],rfl,by show 3<=15;decide,?_⟩
  have sC:jn Hb (upd Hb sg (.dK [])):=jn.new hsg
  have nD:∀{a:Addr} {o:HO},Hb a=some o->a≠sd->(upd (upd Hb sg (.dK [])) sd (.dK (qQ [] [(.inr "reaches",.ref p),(.inr "rows",.ref q),(.inr "single",.ref sg)]))) a=some o:=λh n=>by rw [j5 n];exact sC _ _ h
  have dD:(upd (upd Hb sg (.dK [])) sd (.dK (qQ [] [(.inr "reaches",.ref p),(.inr "rows",.ref q),(.inr "single",.ref sg)]))) sd=some (.dK (qQ [] [(.inr "reaches",.ref p),(.inr "rows",.ref q),(.inr "single",.ref sg)])):=j7
  have pD:=nD pB (jh pB sdB (by walk_at "z"))
  have rD:jN (upd (upd Hb sg (.dK [])) sd (.dK (qQ [] [(.inr "reaches",.ref p),(.inr "rows",.ref q),(.inr "single",.ref sg)]))) xs rs:=rB.keep λ_ _ h=>nD h (jh h sdB (by walk_at "z"))
  have qD:=nD hqb qsd
  have r3D:qh (upd (upd Hb sg (.dK [])) sd (.dK (qQ [] [(.inr "reaches",.ref p),(.inr "rows",.ref q),(.inr "single",.ref sg)]))) ys ts:=r3b.imp λ_ _ h=>nD h (jh h sdB (by walk_at "z"))
  have sgD:(upd (upd Hb sg (.dK [])) sd (.dK (qQ [] [(.inr "reaches",.ref p),(.inr "rows",.ref q),(.inr "single",.ref sg)]))) sg=some (.dK []):=by rw [j5 sgsd];exact j7
  have BD:jR L (upd (upd Hb sg (.dK [])) sd (.dK (qQ [] [(.inr "reaches",.ref p),(.inr "rows",.ref q),(.inr "single",.ref sg)]))) b:=(Bb.same sC).put sdb (B1.neL hsd)
  have XD:Ext b H (upd (upd Hb sg (.dK [])) sd (.dK (qQ [] [(.inr "reaches",.ref p),(.inr "rows",.ref q),(.inr "single",.ref sg)]))):=λc o h n=>nD (XB c o h n) (j1 h sd0)
  clear nD sC hsg sdB pB rB XB hqb r3b Bb Xb hq Ba
  generalize (upd (upd Hb sg (.dK [])) sd (.dK (qQ [] [(.inr "reaches",.ref p),(.inr "rows",.ref q),(.inr "single",.ref sg)])))=Hd at *
  have Ld:=jV g1.ok
  walk_at "r"
  refine ⟨p,xs,rs,rfl,pD,rD,Ld,(),λl He out ws hl hle w1 hR s1=>?_⟩
  walk_at "r"
  refine ⟨⟨_,SqL.of hle⟩,λgl hgl=>?_⟩
  have hlw:out.length=ws.length:=aP w1
  have hws:ws.length<=6:=by rw [hR.length];exact g1.heads
  have h100:∀r∈rs,r.2.length<=100:=λr hr=>aG (QR g1 r hr) ⋯
  have BE:=BD.same s1
  have glb:gl≠b:=BE.ne hgl
  refine qg (K:=K) (a:=l) (xs:=out) (acc:=gl) (λi σ H2=>∃(x:Option V) (zs:List V),σ=[x,some (.ref p)]/\H2 gl=some (.lst zs)/\zs.length=i/\cf (λv (w:List Int)=>∃a,v=V.ref a/\H2 a=some (.lst (w.map V.int))/\He a=none/\a≠gl) zs ((ws.take i).map (ja rs))/\Ext gl He H2) ?_ ?_ ?_ ?_
  ·exact ⟨none,[],rfl,j7,rfl,.nil,Ext.put⟩
  ·rintro i σ H2 hi ⟨x,zs,rfl,h2,hz,r2,e2⟩
   exact SqL.of (e2 _ _ hle (j1 hle hgl))
  ·rintro i v σ H2 hv ⟨x,zs,rfl,h2,hz,r2,e2⟩
   obtain ⟨wy,hwy,a,rfl,ha1⟩:=Paired.get w1 hv
   have hi:=(List.getElem?_eq_some_iff.mp hwy).1
   obtain ⟨x',hx',ewy⟩:=hR.mem (au hwy)
   have ha2:=e2 _ _ ha1 (j1 ha1 hgl)
   have hr1:=s1 _ _ pD
   have hl':=vF Ld x' (xf hx')
   have:=xf hx'
   walk_at "r"
   refine ⟨p,a,xs,rs,wy,rfl,e2 _ _ hr1 (j1 hr1 hgl),(rD.keep (ji.same s1)).keep (ji.new e2 hgl),h100,ha2,by rw [ewy];exact xy Ld x' (xf hx'),by rw [ewy];omega,λt H3 ht ht3 s3=>?_⟩
   have ta:t≠gl:=(j1 h2 ht).symm
   refine ⟨zs,s3 _ _ h2,je (),some (.ref a),zs++[.ref t],rfl,j7,by rw [av,hz];rfl,?_,λc o hc n=>by rw [j5 n];exact s3 _ _ (e2 c o hc n)⟩
   rw [qr (ja rs) ws i wy hwy]
   exact cu (Paired.mapP r2 λv wy ⟨a,e,ha,h0,na⟩=>⟨a,e,by rw [j5 na];exact s3 _ _ ha,h0,na⟩) ⟨t,rfl,by rw [j5 ta];exact ht3,e2.free ht ta,ta⟩
  rintro σ H2 ⟨x,zs,rfl,h2,hz,r2,e2⟩
  rw [hlw,bb] at r2
  have gi2:zN H2 zs (ws.map (ja rs)):=Paired.mapP r2 λv wy ⟨a,e,ha,h0,na⟩=>⟨a,e,ha⟩
  have zb:V.ref b∉zs:=λz=>by
   obtain ⟨_,a,e,_,h0,_⟩:=pm r2 _ z
   cases e
   exact absurd rfl (BE.ne h0)
  have s2:jn Hd H2:=λc o hc=>e2 _ _ (s1 _ _ hc) (j1 (s1 _ _ hc) hgl)
  have gl0:Hd gl=none:=s1.free hgl
  walk_at "r"
  refine ⟨sd,_,rfl,vx.k (k:=.inr "grounds") (s2 _ _ dD) (je (aG (zm _ _) (by show 0+3<=1000;decide))),?_⟩
  rw [put4]
  have nF:∀{a:Addr} {o:HO},H2 a=some o->(∀kvs,o≠.dK kvs)->(upd H2 sd (.dK [((.inr "reaches",.ref p):Key×V),(.inr "rows",.ref q),(.inr "single",.ref sg),(.inr "grounds",.ref gl)])) a=some o:=λh n=>by rw [j5 (jh h (s2 _ _ dD) (n _))];exact h
  have dF:(upd H2 sd (.dK [((.inr "reaches",.ref p):Key×V),(.inr "rows",.ref q),(.inr "single",.ref sg),(.inr "grounds",.ref gl)])) sd=some (.dK [((.inr "reaches",.ref p):Key×V),(.inr "rows",.ref q),(.inr "single",.ref sg),(.inr "grounds",.ref gl)]):=j7
  have pF:=nF (s2 _ _ pD) (by walk_at "w")
  have qF:=nF (s2 _ _ qD) (by walk_at "w")
  have rF:jN (upd H2 sd (.dK [((.inr "reaches",.ref p):Key×V),(.inr "rows",.ref q),(.inr "single",.ref sg),(.inr "grounds",.ref gl)])) xs rs:=rD.keep λ_ _ h=>nF (s2 _ _ h) (by walk_at "w")
  have r3F:qh (upd H2 sd (.dK [((.inr "reaches",.ref p):Key×V),(.inr "rows",.ref q),(.inr "single",.ref sg),(.inr "grounds",.ref gl)])) ys ts:=r3D.imp λ_ _ h=>nF (s2 _ _ h) (by walk_at "w")
  have gF:=nF h2 (by walk_at "w")
  have giF:zN (upd H2 sd (.dK [((.inr "reaches",.ref p):Key×V),(.inr "rows",.ref q),(.inr "single",.ref sg),(.inr "grounds",.ref gl)])) zs (ws.map (ja rs)):=Paired.mapP gi2 λv wy ⟨a,e,ha⟩=>⟨a,e,nF ha (by walk_at "w")⟩
  have sgF:(upd H2 sd (.dK [((.inr "reaches",.ref p):Key×V),(.inr "rows",.ref q),(.inr "single",.ref sg),(.inr "grounds",.ref gl)])) sg=some (.dK []):=by rw [j5 sgsd];exact s2 _ _ sgD
  have BF:jR L (upd H2 sd (.dK [((.inr "reaches",.ref p):Key×V),(.inr "rows",.ref q),(.inr "single",.ref sg),(.inr "grounds",.ref gl)])) b:=(BD.same s2).put sdb (B1.neL hsd)
  have XF:Ext b H (upd H2 sd (.dK [((.inr "reaches",.ref p):Key×V),(.inr "rows",.ref q),(.inr "single",.ref sg),(.inr "grounds",.ref gl)])):=λc o h n=>by rw [j5 (j1 h sd0)];exact s2 _ _ (XD c o h n)
  clear nF gi2 s2 h2 r2 e2 BE hgl s1 w1 hle hl pD rD qD r3D sgD BD XD dD h100
  generalize (upd H2 sd (.dK [((.inr "reaches",.ref p):Key×V),(.inr "rows",.ref q),(.inr "single",.ref sg),(.inr "grounds",.ref gl)]))=Hf at *
  have hzw:zs.length<=6:=()
  refine ⟨λσ H5=>∃c,σ=[some (.ref b),some (.ref p),some (.ref sd),none,none]/\ScB L b H H5 sd c/\c.sk=[]/\∀x∈c.lds,x.2=[],?_,?_⟩
  ·walk_at "r"
   refine ⟨sd,.ref gl,rfl,by rw [<- JD p q sg gl];exact qP.k (k:=.inr "grounds") dF,?_⟩
   walk_at "r"
   refine ⟨⟨_,SqL.of gF⟩,λle hle=>?_⟩
   have leb:le≠b:=BF.ne hle
   refine qg (K:=K) (a:=gl) (xs:=zs) (acc:=le) (λi σ He=>∃(x:Option V) (lds:List (Addr×List (Int×Int))),σ=[x]/\He le=some (.lst (lds.map λx=>V.ref x.1))/\lds.length=i/\(∀x∈lds,He x.1=some (.dK [])/\x.2=[]/\Hf x.1=none/\x.1≠le)/\(lds.map (·.1)).Nodup/\Ext le Hf He) ?_ ?_ ?_ ?_
   ·exact ⟨none,[],rfl,j7,rfl,(λx z=>by cases z),fW,Ext.put⟩
   ·rintro i σ He hi ⟨x,lds,rfl,he,hl,hd,nn,e⟩
    exact SqL.of (e _ _ gF (j1 gF hle))
   ·rintro i v σ He hv ⟨x,lds,rfl,he,hl,hd,nn,e⟩
    have hi:=(List.getElem?_eq_some_iff.mp hv).1
    walk_at "r"
    intro d hd0
    have dl:d≠le:=(j1 he hd0).symm
    refine ⟨_,(by rw [j5 (cY dl)];exact he),by rw [af];exact je (),some v,lds++[(d,[])],rfl,(by rw [j7,aE];rfl),(by rw [av,hl];rfl),λy hy=>?_,?_,λc o hc n=>?_⟩
    ·rcases List.mem_append.mp hy with z | z
     ·obtain ⟨h1,h2,h3,h4⟩:=hd y z
      exact ⟨by rw [j5 h4,j5 (j1 h1 hd0)];exact h1,h2,h3,h4⟩
     ·obtain rfl:y=(d,[]):=by simpa using z
      exact ⟨by rw [j5 dl];exact j7,rfl,e.free hd0 dl,dl⟩
    ·rw [aE]
     refine vo nn λz=>?_
     obtain ⟨y,hy,ey⟩:=List.mem_map.mp z
     have:=(hd y hy).1
     rw [ey,hd0] at this
     cases this
    ·rw [j5 n,j5 (j1 (e c o hc n) hd0)]
     exact e c o hc n
   ·rintro σ He ⟨x,lds,rfl,he,hl,hd,nn,e⟩
    have sE:jn Hf He:=λc o h=>e c o h (j1 h hle)
    walk_at "r"
    refine ⟨sd,_,rfl,vx.k (k:=.inr "leaps") (sE _ _ dF) (by show 4<sizeLine;decide),?_⟩
    rw [put5]
    have nG:∀{a:Addr} {o:HO},He a=some o->(∀kvs,o≠.dK kvs)->(upd He sd (.dK (scK p q sg gl le))) a=some o:=λh n=>by rw [j5 (jh h (sE _ _ dF) (n _))];exact h
    have lG:∀x∈lds,(upd He sd (.dK (scK p q sg gl le))) x.1=some (.dK (x.2.map kvI)):=λx hx=>by
     obtain ⟨h1,h2,h3,h4⟩:=hd x hx
     rw [j5 (j1 dF h3).symm,h2]
     exact h1
    have sgG:(upd He sd (.dK (scK p q sg gl le))) sg=some (.dK []):=by rw [j5 sgsd];exact sE _ _ sgF
    refine ⟨⟨p,q,sg,gl,le,xs,ys,zs,rs,ts,ws,[],lds⟩,rfl,⟨⟨j7,nG (sE _ _ pF) (by walk_at "w"),rF.keep λ_ _ h=>nG (sE _ _ h) (by walk_at "w"),nG (sE _ _ qF) (by walk_at "w"),r3F.imp λ_ _ h=>nG (sE _ _ h) (by walk_at "w"),nG (sE _ _ gF) (by walk_at "w"),Paired.mapP giF λv wy ⟨a,e,ha⟩=>⟨a,e,nG (sE _ _ ha) (by walk_at "w")⟩,nG he (by walk_at "w"),.inl sgG,(λz hz=>by cases hz),λx hx=>.inl (lG x hx)⟩,
     ⟨g1,l1,l8,ht12.1,ht12.2,htg,hR,hl.trans (hz.trans hlw),nn,λx hx=>(j1 sgF (hd x hx).2.2.1).symm,pb,qb,glb,leb,zb,fW,(λz hz=>by cases hz),aJ _,(λx hx=>by rw [(hd x hx).2.1];exact fW),(λx hx=>by rw [(hd x hx).2.1];intro z hz;cases hz),(λx hx=>by rw [(hd x hx).2.1];exact aJ _)⟩,sgG,lG,(BF.same sE).put sdb (B1.neL hsd),λc o h n=>?_,sg0,λx hx=>?_⟩,rfl,λx hx=>(hd x hx).2.1⟩
    ·rw [j5 (j1 h sd0)]
     exact sE _ _ (XF c o h n)
    ·exact XF.free (hd x hx).2.2.1 (BF.ne (hd x hx).2.2.1)
  rintro σ H5 ⟨c,rfl,S5,k5,l5⟩
  clear dF pF qF rF r3F gF giF sgF BF XF zb hlw hws hz hzw
  refine ⟨λσ H6=>∃(x:Option V) (c:ScN),σ=[some (.ref b),some (.ref p),some (.ref sd),x,none]/\ScB L b H H6 sd c/\∀x∈c.lds,x.2=[],?_,?_⟩
  ·walk_at "r"
   refine ⟨by show 3<=sizeLine;decide,λl6 H6 hl6 hl66 s6=>?_⟩
   have S6:=S5.same s6
   have l6b:l6≠b:=S5.B.ne hl6
   walk_at "r"
   refine ⟨L,b,_,rfl,S6.B,⟨⋯,⋯⟩,λv7 H7 p7 q7 B7 X7=>?_⟩
   have S7:=S6.take B7 X7
   obtain ⟨n,hn,n0,n1⟩:=Yt p7 q7
   refine ⟨_,_,_,_,rfl,rfl,SqL.of (X7 _ _ hl66 l6b),hn,?_⟩
   walk_at "r"
   refine ⟨L,b,_,rfl,S7.B,⟨n0,()⟩,λv8 H8 p8 q8 B8 X8=>?_⟩
   have S8:=S7.take B8 X8
   walk_at "r"
   refine ⟨(),(),?_⟩
   refine xJ (λi σ H2=>∃(x:Option V) (c:ScN),σ=[some (.ref b),some (.ref p),some (.ref sd),x,none]/\ScB L b H H2 sd c/\c.sk.length<=i/\∀x∈c.lds,x.2=[]) ?_ ?_ ?_
   ·exact ⟨none,c,rfl,S8,by rw [k5];exact ao _,l5⟩
   ·rintro i σ H2 hi ⟨x,c,rfl,S,hk,hl⟩
    walk_at "r"
    refine ⟨L,b,rfl,S.B,λt H9 r B9 X9 ht hg=>?_⟩
    have S9:=S.take B9 X9
    walk_at "r"
    refine ⟨sd,.ref c.sg,rfl,by rw [<- zq c.p c.q c.sg c.gl c.ll];exact qP.k (k:=.inr "single") S9.S.sd,?_⟩
    walk_at "r"
    refine ⟨L,b,rfl,S9.B,λy H10 y0 y1 B10 X10=>?_⟩
    have S10:=S9.take B10 X10
    refine ⟨c.sg,_,rfl,vx.k (k:=.inl y) S10.r1 (by rw [af];exact je (by have:=S10.O.k3;omega)),?_⟩
    exact ⟨_,{ c with sk:=qC c.sk y t },rfl,S10.single y0 y1 (X10 _ _ ht (S9.B.ne_tup ht)) hg (),aG (vm _ _ _) (),hl⟩
   ·rintro σ H2 ⟨x,c,rfl,S,hk,hl⟩
    exact ⟨x,c,rfl,S,hl⟩
  clear S5 k5 l5
  rintro σ H6 ⟨x,c,rfl,S6,l6⟩
  walk_at "r"
  refine ⟨by show 3<=sizeLine;decide,λl7 H7 hl7 hl77 s7=>?_⟩
  have S7:=S6.same s7
  have l7b:l7≠b:=S6.B.ne hl7
  walk_at "r"
  refine ⟨L,b,_,rfl,S7.B,⟨⋯,⋯⟩,λv8 H8 p8 q8 B8 X8=>?_⟩
  have S8:=S7.take B8 X8
  obtain ⟨n,hn,n0,n1⟩:=Yn p8 q8
  refine ⟨_,_,_,_,rfl,rfl,SqL.of (X8 _ _ hl77 l7b),hn,?_⟩
  walk_at "r"
  refine ⟨L,b,_,rfl,S8.B,⟨n0,()⟩,λv9 H9 p9 q9 B9 X9=>?_⟩
  have S9:=S8.take B9 X9
  walk_at "r"
  refine ⟨(),(),?_⟩
  refine xJ (λi σ H2=>∃(x y:Option V) (c:ScN),σ=[some (.ref b),some (.ref p),some (.ref sd),x,y]/\ScB L b H H2 sd c/\∀x∈c.lds,x.2.length<=i) ?_ ?_ ?_
  ·exact ⟨x,none,c,rfl,S9,λx hx=>by rw [l6 x hx];exact ao _⟩
  ·rintro i σ H2 hi ⟨x,y',c,rfl,S,hl⟩
   have hw1:1<=c.ws.length:=by
    rw [S.O.ro.length]
    exact k9 (jV S.O.gr.ok) S.O.l1
   have hzl:c.zs.length=c.ws.length:=(aP S.S.gi).trans (af _)
   have hw6:c.ws.length<=6:=by rw [S.O.ro.length];exact S.O.gr.heads
   walk_at "r"
   refine ⟨sd,.ref c.gl,rfl,by rw [<- yR c.p c.q c.sg c.gl c.ll];exact qP.k (k:=.inr "grounds") S.S.sd,?_⟩
   walk_at "r"
   refine ⟨c.gl,_,rfl,.inl (SqL.of S.S.gl),?_⟩
   walk_at "r"
   refine ⟨L,b,_,rfl,S.B,⟨(),()⟩,λln H10 ln0 ln1 B10 X10=>?_⟩
   have S10:=S.take B10 X10
   walk_at "r"
   refine ⟨by show 2<=sizeLine;decide,λl11 H11 hl11 hl11' s11=>?_⟩
   have S11:=S10.same s11
   have l11b:l11≠b:=S10.B.ne hl11
   walk_at "r"
   refine ⟨L,b,_,rfl,S11.B,⟨⋯,⋯⟩,λv12 H12 p12 q12 B12 X12=>?_⟩
   have S12:=S11.take B12 X12
   obtain ⟨n,hn,n0,n1⟩:=Uz p12 q12
   refine ⟨_,_,_,_,rfl,rfl,SqL.of (X12 _ _ hl11' l11b),hn,?_⟩
   walk_at "r"
   refine ⟨L,b,_,rfl,S12.B,⟨n0,()⟩,λv13 H13 p13 q13 B13 X13=>?_⟩
   have S13:=S12.take B13 X13
   walk_at "r"
   have hll:ln.toNat<c.lds.length:=by rw [S.O.ldl];omega
   obtain ⟨⟨a,ns⟩,ha⟩:∃z,c.lds[ln.toNat]? = some z:=⟨_,aa hll⟩
   refine ⟨sd,.ref c.ll,rfl,by rw [<- uC c.p c.q c.sg c.gl c.ll];exact qP.k (k:=.inr "leaps") S13.S.sd,?_⟩
   walk_at "r"
   refine ⟨_,_,_,_,rfl,rfl,SqL.of S13.S.ll,qx ln0 (v:=V.ref a) (by rw [ar,ha];rfl),?_⟩
   walk_at "r"
   refine ⟨L,b,rfl,S13.B,λy H14 y0 y1 B14 X14=>?_⟩
   have S14:=S13.take B14 X14
   have hns:=hl _ (au ha)
   refine ⟨a,_,rfl,vx.k (k:=.inl y) (S14.r2 _ (au ha)) (by rw [af];exact je (by have:ns.length<=i:=hns;omega)),?_⟩
   have hns:ns.length<=i:=hns
   refine ⟨_,_,{ c with lds:=c.lds.set ln.toNat (a,qC ns y (1+v13)) },rfl,S14.leap ha y0 y1 () () (),λx hx=>?_⟩
   rcases vk S.O.nd ha hx with z | ⟨z,_⟩
   ·subst z
    exact aG (vm _ _ _) ()
   ·exact Nat.le_succ_of_le (hl x z)
  ·rintro σ H2 ⟨x,y',c,rfl,S,hl⟩
   walk_at "r"
   exact k sd H2 c S.B S.X S.S S.O
theorem IceNew.made {C Pt p dx:Addr}{H H':Hp}{g:IceG}{o o':HO}(hp:H p=none) (hd:H dx=none) (I:IceNew C Pt (upd (upd H dx o) p o') H' p g):IceNew C Pt H H' p g:=by
 have s:jn H (upd (upd H dx o) p o'):=λc u h=>by rw [j5 (j1 h hp),j5 (j1 h hd)];exact h
 exact ⟨I.at_,λc u h n m=>I.keep c u (s c u h) n m,s.free I.va,s.free I.cy,s.free I.sl,s.free I.ye,s.free I.le,λa z=>s.free (I.zs a z),I.kvs,λx hx=>⟨s.free (I.lds x hx).1,(I.lds x hx).2⟩,I.ll,I.nd,I.ny,I.sl2⟩
structure IceFr (H:Hp) (p:Addr) (g:IceG):Prop where
 p:H p=none
 va:H g.va=none
 cy:H g.cy=none
 sl:H g.sl=none
 ye:H g.ye=none
 le:H g.le=none
 zs:∀a,V.ref a∈g.zs->H a=none
 lds:∀x∈g.lds,H x.1=none
theorem IceAt.stay {C p:Addr}{H H2 H3:Hp}{g:IceG}(I:IceAt C H2 p g) (F:IceFr H p g) (f:∀a o,H2 a=some o->H a=none->H3 a=some o) (t:ji H2 H3):IceAt C H3 p g :=
 ⟨f _ _ I.ob F.p,f _ _ I.va F.va,I.rs.keep t,f _ _ I.cy F.cy,I.rows.imp λ_ _ q=>t _ _ q,f _ _ I.sl F.sl,pmM I.slopes λv hv w ⟨a,ea,q⟩=>⟨a,ea,f _ _ q (F.zs a (ea ▸ hv))⟩,f _ _ I.ye F.ye,f _ _ I.le F.le,λx hx=>f _ _ (I.lds x hx) (F.lds x hx)⟩
theorem Fr3.ext {N M:Addr->Prop}{H H2 H3:Hp}{a:Addr}(f:Fr3 N M H H2) (e:Ext a H2 H3) (ha:H a=none):Fr3 N M H H3:=λc o h n=>by
 have ca:c≠a:=j1 h ha
 rcases f c o h n with q | ⟨m,ob,kvs,eo,q⟩
 ·exact .inl (e _ _ q ca)
 ·exact .inr ⟨m,ob,kvs,eo,e _ _ q ca⟩
theorem Fr3.same {N M:Addr->Prop}{H H2 H3:Hp}(f:Fr3 N M H H2) (e:jn H2 H3):Fr3 N M H H3:=λc o h n=>by
 rcases f c o h n with q | ⟨m,ob,kvs,eo,q⟩
 ·exact .inl (e _ _ q)
 ·exact .inr ⟨m,ob,kvs,eo,e _ _ q⟩
theorem Fr3.frz {N M:Addr->Prop}{H H2:Hp}{a:Addr}{ob:Obj}{kvs:List (Key×V)}(f:Fr3 N M H H2) (h:H2 a=some (.dK kvs)) (m:M a):Fr3 N M H (upd H2 a (.frz ob (.dK kvs))):=λc o hc n=>by
 by_cases e:c=a
 ·subst e
  rcases f c o hc n with q | ⟨_,ob',kvs',eo,q⟩
  ·rw [h] at q
   cases q
   exact .inr ⟨m,ob,kvs,rfl,j7⟩
  ·rw [h] at q
   cases q
 ·rw [j5 e]
  exact f c o hc n
theorem Zh {H:Hp}{a:Addr}{ob:Obj}{kvs:List (Key×V)}(h:H a=some (.dK kvs)):ji H (upd H a (.frz ob (.dK kvs))):=λc xs q=>by rw [j5 (jh q h (by walk_at "z"))];exact q
theorem Yu {H:Hp}{a Pt:Addr}{ob:Obj}{kvs:List (Key×V)}(T:qm H Pt) (h:H a=some (.dK kvs)):qm (upd H a (.frz ob (.dK kvs))) Pt:=by
 rcases T with q | ⟨c,q,q'⟩
 ·exact .inl (by rw [j5 (jh q h (by walk_at "z"))];exact q)
 ·exact .inr ⟨c,by rw [j5 (jh q h (by walk_at "z"))];exact q,by rw [j5 (jh q' h (by walk_at "z"))];exact q'⟩
theorem Jf {H H':Hp}{a Pt:Addr}{kvs:List (Key×V)}(T:qm H Pt) (h:H a=some (.dK kvs)) (e:Ext a H H'):qm H' Pt:=by
 rcases T with q | ⟨c,q,q'⟩
 ·exact .inl (e _ _ q (jh q h (by walk_at "z")))
 ·exact .inr ⟨c,e _ _ q (jh q h (by walk_at "z")),e _ _ q' (jh q' h (by walk_at "z"))⟩
theorem Uj {ns:List (Int×Addr)}{i:Nat}{q:Key×V}(h:(ns.map kvA)[i]? = some q):∃z,ns[i]? = some z/\q=kvA z:=by
 rw [ar] at h
 cases e:ns[i]? with
 | none=>rw [e] at h;cases h
 | some z=>rw [e] at h;cases h;exact ⟨z,rfl,rfl⟩
theorem ua:∀{ns:List (Int×Addr)},(ns.map (·.1)).Nodup->∀{z:Int×Addr},z∈ns->qy (ns.map kvA) (.inl z.1)=some (.ref z.2)
 | [],_,z,h=>by cases h
 | q::r,nd,z,h=>by
  rw [aH] at nd
  obtain ⟨h1,h2⟩:=List.nodup_cons.mp nd
  rw [aH]
  rcases List.mem_cons.mp h with e | e
  ·subst e
   exact xg
  ·have ne:¬q.1=z.1:=λw=>h1 (by rw [w];exact b9 e)
   show qy ((.inl q.1,.ref q.2)::r.map kvA) (.inl z.1)=_
   rw [jt (λw=>ne (dU w))]
   exact ua h2 e
theorem Zy {α:Type}{l:List (Int×α)}{y:Int}{a:α}(h:y∉l.map (·.1)):qC l y a=l++[(y,a)]:=by
 unfold qC
 rw [if_neg]
 intro z
 obtain ⟨u,hu,e⟩:=List.any_eq_true.mp z
 exact h (of_decide_eq_true e ▸ b9 hu)
theorem Qn {α:Type}{l:List (Int×α)}(nd:(l.map (·.1)).Nodup) {i:Nat}{z:Int×α}(h:l[i]? = some z):z.1∉(l.take i).map (·.1):=λm=>by
 obtain ⟨hi,e⟩:=List.getElem?_eq_some_iff.mp h
 obtain ⟨u,hu,eu⟩:=List.mem_map.mp m
 obtain ⟨j,hj,ej⟩:=List.mem_iff_getElem.mp hu
 rw [aW] at hj
 rw [mF] at ej
 have h1:(l.map (·.1))[j]'(by rw [af];omega)=(l.map (·.1))[i]'(by rw [af];exact hi):=by rw [d6,d6,ej,e,eu]
 exact absurd h1 (List.pairwise_iff_getElem.mp nd j i _ _ ())
theorem JC {α:Type}{f:α->V}{l:List (Int×α)}(nd:(l.map (·.1)).Nodup) {i:Nat}{z:Int×α}(h:l[i]? = some z):qf ((l.take i).map λz=>((.inl z.1,f z.2):Key×V)) (.inl z.1) (f z.2)=(l.take (i+1)).map λz=>((.inl z.1,f z.2):Key×V):=by
 rw [vv f,Zy (Qn nd h),c8,h]
 rfl
structure LdN (g0:List (Addr×List (Key×V))) (cl:List (Addr×List (Int×Int))) (i n:Nat) (lds:List (Addr×List (Key×V))):Prop where
 fst:lds.map (·.1)=g0.map (·.1)
 at_:∀j x,lds[j]? = some x->∃y,cl[j]? = some y/\x.2=(if j<i then y.2 else if j=i then y.2.take n else []).map kvI
theorem LdN.len {g0 lds:List (Addr×List (Key×V))}{cl:List (Addr×List (Int×Int))}{i n:Nat}(h:LdN g0 cl i n lds):lds.length=g0.length:=by
 have:=congrArg fm h.fst
 rwa [af,af] at this
theorem LdN.next {g0 lds:List (Addr×List (Key×V))}{cl:List (Addr×List (Int×Int))}{i n:Nat}{y:Addr×List (Int×Int)}(h:LdN g0 cl i n lds) (hy:cl[i]? = some y) (hn:y.2.length<=n):LdN g0 cl (i+1) 0 lds:=⟨h.fst,λj x hx=>by
 obtain ⟨u,hu,e⟩:=h.at_ j x hx
 refine ⟨u,hu,?_⟩
 rw [e]
 by_cases a:j<i
 ·rw [if_pos a,if_pos ()]
 ·rw [if_neg a]
  by_cases b:j=i
  ·subst b
   rw [hy] at hu
   cases hu
   rw [if_pos rfl,if_pos (),cG hn]
  ·rw [if_neg b,if_neg ()]
   split
   ·rfl
   ·rfl⟩
theorem LdN.put {g0 lds:List (Addr×List (Key×V))}{cl:List (Addr×List (Int×Int))}{i n:Nat}{y:Addr×List (Int×Int)}{z:Int×Int}{a:Addr}{kvs:List (Key×V)}(h:LdN g0 cl i n lds) (hy:cl[i]? = some y) (nd:(y.2.map (·.1)).Nodup) (hz:y.2[n]? = some z) (ha:lds[i]? = some (a,kvs)):LdN g0 cl i (n+1) (zZ lds i (qf kvs (.inl z.1) (.int z.2))):=by
 obtain ⟨u,hu,e⟩:=h.at_ i _ ha
 rw [hy] at hu
 cases hu
 rw [if_neg (bX i),if_pos rfl] at e
 have e2:qf kvs (.inl z.1) (.int z.2)=(y.2.take (n+1)).map kvI:=by
  rw [show kvs=(y.2.take n).map kvI from e]
  exact JC (f:=V.int) nd hz
 refine ⟨?_,λj x hx=>?_⟩
 ·rw [<- h.fst]
  unfold zZ
  rw [ak,ha]
  exact QM ha
 ·unfold zZ at hx
  rw [dw] at hx
  by_cases b:i=j
  ·subst b
   rw [if_pos rfl,if_pos (List.getElem?_eq_some_iff.mp ha).1] at hx
   cases hx
   exact ⟨y,hy,by rw [if_neg (bX i),if_pos rfl];exact e2⟩
  ·rw [if_neg b] at hx
   obtain ⟨u,hu,e⟩:=h.at_ j x hx
   refine ⟨u,hu,?_⟩
   rw [e]
   by_cases c:j<i
   ·rw [if_pos c,if_pos c]
   ·rw [if_neg c,if_neg c,if_neg (λq=>b q.symm),if_neg (λq=>b q.symm)]
theorem ScAt.fr {Pt sd:Addr}{H H':Hp}{c:ScN}(S:ScAt H sd c) (T:qm H Pt) (f:Fr3 (λa=>a=Pt) c.D H H'):ScAt H' sd c:=by
 obtain ⟨ps,hP⟩:=T.ne
 have n:∀{a:Addr} {o:HO},H a=some o->(∀ps,o≠.tbl ps)->¬a=Pt:=λh q=>jh h hP (q _)
 have nr:∀{a:Addr} {kvs:List (Key×V)},Rd H a (.dK kvs)->¬a=Pt:=λh=>by
  rcases h with h | ⟨o,h⟩
  ·exact n h (by walk_at "w")
  ·exact n h (by walk_at "w")
 exact S.keep f (λa xs h=>n h (by walk_at "w")) (n S.sd (by walk_at "w")) S.nD (n S.p (by walk_at "w")) (n S.q (by walk_at "w")) (n S.gl (by walk_at "w")) (n S.ll (by walk_at "w")) (λa h=>by
  obtain ⟨w,a',e,q⟩:=pm S.gi _ h
  cases e
  exact n q (by walk_at "w")) (nr S.sg) λx hx=>nr (S.ld x hx)
theorem ScAt.inD {H:Hp}{sd a:Addr}{c:ScN}(S:ScAt H sd c) (h:c.D a):∃o,H a=some o:=by
 have r:∃kvs,Rd H a (.dK kvs):=by
  rcases h with h | ⟨x,hx,e⟩
  ·exact ⟨_,h ▸ S.sg⟩
  ·exact ⟨_,e ▸ S.ld x hx⟩
 obtain ⟨_,r | ⟨o,r⟩⟩:=r
 ·exact ⟨_,r⟩
 ·exact ⟨_,r⟩
theorem Zq {a:Addr}{kvs:List (Key×V)}{o:Obj}{H H4:Hp}(f:Fz a kvs o H H4):ji H H4:=λc xs q=>by
 rcases f.2 with rfl | ⟨h,rfl⟩
 ·exact q
 ·exact Zh h c xs q
theorem W0 {N M:Addr->Prop}{a:Addr}{kvs:List (Key×V)}{o:Obj}{H H2 H4:Hp}(f:Fz a kvs o H2 H4) (r:Fr3 N M H H2) (m:M a):Fr3 N M H H4:=by
 rcases f.2 with rfl | ⟨h,rfl⟩
 ·exact r
 ·exact r.frz h m
theorem VS {a Pt:Addr}{kvs:List (Key×V)}{o:Obj}{H H4:Hp}(f:Fz a kvs o H H4) (T:qm H Pt):qm H4 Pt:=by
 rcases f.2 with rfl | ⟨h,rfl⟩
 ·exact T
 ·exact Yu T h
structure MdI (C Pt p:Addr) (c:ScN) (H H2:Hp) (g:IceG):Prop where
 I:IceAt C H2 p g
 F:IceFr H p g
 R:Fr3 (λa=>a=Pt) c.D H H2
 T:qm H2 Pt
theorem MdI.frz {C Pt p sd a:Addr}{c:ScN}{H H2 H4:Hp}{g:IceG}{kvs:List (Key×V)}{o:Obj}(M:MdI C Pt p c H H2 g) (S:ScAt H sd c) (h:c.D a) (f:Fz a kvs o H2 H4):MdI C Pt p c H H4 g:=by
 obtain ⟨_,ha⟩:=S.inD h
 exact ⟨M.I.stay M.F (λb u hb n=>f.at hb (j1 ha n).symm) (Zq f),M.F,W0 f M.R h,VS f M.T⟩
theorem MdI.same {C Pt p:Addr}{c:ScN}{H H2 H4:Hp}{g:IceG}(M:MdI C Pt p c H H2 g) (s:jn H2 H4):MdI C Pt p c H H4 g:=⟨M.I.same s,M.F,M.R.same s,M.T.same s⟩
theorem LdN.mem {g0 lds:List (Addr×List (Key×V))}{cl:List (Addr×List (Int×Int))}{i n:Nat}(h:LdN g0 cl i n lds) {x:Addr×List (Key×V)}(hx:x∈lds):∃y∈g0,y.1=x.1:=by
 have:x.1∈g0.map (·.1):=h.fst ▸ b9 hx
 obtain ⟨y,hy,e⟩:=List.mem_map.mp this
 exact ⟨y,hy,e⟩
def ZS (C Pt:Addr):Sp:=λvs H Q _=>∃(sd b:Addr) (c:ScN),vs=[.ref sd]/\ScAt H sd c/\ScOk b c/\qm H Pt /\
 ∀p H' g,IceAt C H' p g->IceFr H p g->Fr3 (λa=>a=Pt) c.D H H'->qm H' Pt->g.rs=c.rs->g.rows=c.ts->g.slopes=c.ws.map (ja c.rs)->g.kvs=c.sk.map kvA->g.lds.length=c.lds.length->(∀(l:Nat) x,g.lds[l]? = some x->∃y,c.lds[l]? = some y/\x.2=y.2.map kvI)->(∀x∈g.lds,x.1≠g.ye)->(g.lds.map (·.1)).Nodup->Q (.ref p) H'
theorem x3:FnScope ["_law_scene_here","_law_ice","_law_year_here","_law_lane","_law_leaps"] ["_law_scene_here"] (j8 yD):=by walk_at "s"
theorem YY {f C CV CR CN CY CW CS Pt:Addr}{fd:FuncData}(nb:Nb2 mg) (cl_Ice:Cls K C) (c_Ice:MakX P w K mg base 8 C "Ice" ["self","reaches","rows"] (Zo C CV CR Pt)) (c_Ice__tell:CalMX P w K mg base 2 C "tell" ["self","year","row"] (Zu C CY CW)) (c_Ice__surge:CalMX P w K mg base 2 C "surge" ["self","lane","year","many"] (QQ C CN CY CS)) (F:Fun K "_law_made" "_law_made" yD f fd):FnOk P w K mg base CX0 10 f fd ["_law_scene_here"] (ZS C Pt):=by
 refine F.ok x3 (λvs H Q E h=>?_) (λcdv A outer s H vs Q E hr h=>?_)
 ·obtain ⟨sd,b,c,rfl,_⟩:=h
  rfl
 ·obtain ⟨sd,b,c,rfl,S,O,T,k⟩:=h
  refine ⟨_,(j4 (ju 1 x3.nd (Yl c_Ice (hr.mono ⋯) hV rfl (j0 (jT (qp K) rfl nb.b_list bR (j0 (jC (jK hr) (pv 0) jw (λ_ _=>rfl)) j2)) (j0 (jT (qp K) rfl nb.b_list bR (j0 (jC (jK hr) (pv 0) jw (λ_ _=>rfl)) j2)) j2))))
   (j4 (xh bt rfl (Xi (jC (jK hr) (pv 0) jw (λ_ _=>rfl))) (jc (i:=2) x3.nd rfl (aS rfl)) (j9 (jU (zp (pv 1) cl_Ice c_Ice__tell (hr.mono ⋯) hV (j0 (pv 2) (j0 (jC (jK hr) (jC (jK hr) (pv 0) jw (λ_ _=>rfl)) (pv 2) (λ_ _=>rfl)) j2))))))
   (j4 (xh bt rfl (Xh K rfl nb.b_enumerate (j0 (jC (jK hr) (pv 0) jw (λ_ _=>rfl)) j2)) (qI (n:=2) K rfl (jr (jc (i:=3) x3.nd rfl (aS rfl)) (jr (jc (i:=4) x3.nd rfl (aS rfl)) qN))) (j9 (xh bt rfl (Xi (pv 4)) (jc (i:=2) x3.nd rfl (aS rfl)) (j9 (jU (zp (pv 1) cl_Ice c_Ice__surge (hr.mono ⋯) hV (j0 (pv 3) (j0 (pv 2) (j0 (jC (jK hr) (pv 4) (pv 2) (λ_ _=>rfl)) j2)))))))))
   (j9 (jj (pv 1)))))),?_⟩
  walk_at "r"
  refine ⟨sd,.ref c.p,rfl,by rw [<- Q7 c.p c.q c.sg c.gl c.ll];exact qP.k (k:=.inr "reaches") S.sd,?_⟩
  refine ⟨_,_,rfl,.inl (SqL.of S.p),λl1 H1 hl1 hl11 s1=>?_⟩
  have S1:=S.same s1
  walk_at "r"
  refine ⟨sd,.ref c.q,rfl,by rw [<- gI c.p c.q c.sg c.gl c.ll];exact qP.k (k:=.inr "rows") S1.sd,?_⟩
  refine ⟨_,_,rfl,.inl (SqL.of S1.q),λl2 H2 hl2 hl22 s2=>?_⟩
  have S2:=S1.same s2
  have s12:=s1.trans s2
  walk_at "r"
  intro p dx hp hd hdp
  have s3:jn H2 (upd (upd H2 dx (.own p)) p (.ins C dx [])):=λc u h=>by rw [j5 (j1 h hp),j5 (j1 h hd)];exact h
  have S3:=S2.same s3
  have egr:gr c.ts=true:=by
   have:=O.t1
   have:=O.t2
   unfold gr
   rw [decide_eq_true (),O.tg]
   rfl
  have eg:=O.gr.good O.l1 O.l8
  refine ⟨p,dx,l1,l2,c.xs,c.ys,c.rs,c.ts,rfl,j7,s3 _ _ (s2 _ _ hl11),S3.rv,s3 _ _ hl22,S3.r3,λr hr=>aG (QR O.gr r hr) ⋯,aG O.l8 ⋯,aG O.t2 ⋯,(T.same s12).same s3,λH4 g _ _ I e1 e2 e3 e4 T4=>?_,(λH' z _ _=>by rw [eg] at z;cases z),(λH' _ z _ _=>by rw [egr] at z;cases z)⟩
  have I:=I.made hp hd
  obtain ⟨ws,hR,esl⟩:=I.sl2
  rw [e1] at hR esl
  obtain rfl:=hR.unique O.ro
  have F4:IceFr H p g:=⟨s12.free hp,s12.free I.va,s12.free I.cy,s12.free I.sl,s12.free I.ye,s12.free I.le,λa z=>s12.free (I.zs a z),λx hx=>s12.free (I.lds x hx).1⟩
  have M4:MdI C Pt p c H H4 g:=⟨I.at_,F4,λa o h n=>.inl (I.keep a o (s12 _ _ h) (j1 h F4.p) n),T4⟩
  have ll4:g.lds.length=c.lds.length:=by rw [I.ll,esl,af,O.ldl]
  have nd4:=I.nd
  have ny4:=I.ny
  have kv4:=I.kvs
  have ld4:∀x∈g.lds,x.2=[]:=λx hx=>(I.lds x hx).2
  clear I S3 s3 S2 hl22 hl11 S1 T4
  refine ⟨rfl,?_⟩
  have S4:=S.fr T M4.R
  walk_at "r"
  refine ⟨sd,.ref c.sg,rfl,by rw [<- zq c.p c.q c.sg c.gl c.ll];exact qP.k (k:=.inr "single") S4.sd,?_⟩
  have hsgD:c.D c.sg:=.inl rfl
  refine kK (kvs:=c.sk.map kvA) S4.sg (λo i σ H5=>∃x:Option V,σ=[some (.ref sd),some (.ref p),x,none,none]/\H5 c.sg=some (.frz o (.dK (c.sk.map kvA)))/\MdI C Pt p c H H5 { g with kvs:=(c.sk.take i).map kvA }) ?_ ?_ ?_ ?_
  ·intro o H5 f5
   refine ⟨none,rfl,f5.1,?_⟩
   have:=M4.frz S hsgD f5
   have e:g={ g with kvs:=(c.sk.take 0).map kvA }:=by
    show g={ g with kvs:=[] }
    rw [<- kv4]
   rw [<- e]
   exact this
  ·rintro o i σ H5 hi ⟨x,rfl,h5,M5⟩
   exact h5
  ·rintro o i u σ H5 hq ⟨x,rfl,h5,M5⟩
   obtain ⟨z,hz,rfl⟩:=Uj hq
   have hm:=au hz
   have hi:i<c.sk.length:=(List.getElem?_eq_some_iff.mp hz).1
   have h10:=O.k3
   have S5:=S.fr T M5.R
   obtain ⟨r,hr3,hgr⟩:=S5.sk z hm
   obtain ⟨y0,y1⟩:=O.k2 z hm
   show wU 2 (V.int z.1) _ _ _
   walk_at "r"
   refine ⟨p,g.dx,_,rfl,M5.I.ob,qz ∅,?_⟩
   walk_at "r"
   refine ⟨sd,.ref c.sg,rfl,by rw [<- zq c.p c.q c.sg c.gl c.ll];exact qP.k (k:=.inr "single") S5.sd,?_⟩
   walk_at "r"
   refine ⟨c.sg,.ref z.2,rfl,(by rw [<- ua O.k1 hm];exact .inl ⟨_,.inl z.1,.inr ⟨o,h5⟩,rfl,rfl⟩),?_⟩
   refine ⟨p,z.2,_,z.1,r,rfl,M5.I,ny4,hr3,(by rw [af,aW];omega),λH6 _ _ _ X6 I6=>?_,λhb=>absurd hb (),λ_ _ hb=>by rw [hgr] at hb;cases hb⟩
   have e:qf ((c.sk.take i).map kvA) (.inl z.1) (.ref z.2)=(c.sk.take (i+1)).map kvA:=JC (f:=V.ref) O.k1 hz
   obtain ⟨_,hsg0⟩:=S.inD hsgD
   refine ⟨_,rfl,X6 _ _ h5 (j1 hsg0 F4.ye),?_⟩
   rw [<- e]
   exact ⟨I6,⟨F4.p,F4.va,F4.cy,F4.sl,F4.ye,F4.le,F4.zs,F4.lds⟩,M5.R.ext X6 F4.ye,Jf M5.T M5.I.ye X6⟩
  ·rintro o σ H5 ⟨x,rfl,h5,M5⟩
   rw [af,bb] at M5
   have S5:=S.fr T M5.R
   walk_at "r"
   refine ⟨sd,.ref c.ll,rfl,by rw [<- uC c.p c.q c.sg c.gl c.ll];exact qP.k (k:=.inr "leaps") S5.sd,?_⟩
   walk_at "r"
   refine ⟨⟨_,SqL.of S5.ll⟩,?_⟩
   refine Zx (K:=K) (a:=c.ll) (xs:=c.lds.map λx=>V.ref x.1) (λi σ H6=>∃(x y z:Option V) (lds:List (Addr×List (Key×V))),σ=[some (.ref sd),some (.ref p),x,y,z]/\MdI C Pt p c H H6 { g with kvs:=c.sk.map kvA,lds:=lds }/\LdN g.lds c.lds i 0 lds) ?_ ?_ ?_ ?_
   ·refine ⟨x,none,none,g.lds,rfl,M5,rfl,λj x hx=>?_⟩
    have hj:=(List.getElem?_eq_some_iff.mp hx).1
    obtain ⟨y,hy⟩:∃y,c.lds[j]? = some y:=⟨_,aa ()⟩
    refine ⟨y,hy,?_⟩
    rw [ld4 x (au hx),if_neg (n6 _)]
    split <;> rfl
   ·rintro i σ H6 hi ⟨x,y,z,lds,rfl,M6,L6⟩
    exact SqL.of (S.fr T M6.R).ll
   ·rintro i v σ H6 t hv ⟨x,y,z,lds,rfl,M6,L6⟩ ht
    rw [ar] at hv
    obtain ⟨⟨a,ns⟩,hy,ev⟩:=Option.map_eq_some_iff.mp hv
    subst ev
    have M7:=M6.same (jn.new (o:=.tup [.int i,.ref a]) ht)
    walk_at "r"
    refine ⟨t,_,rfl,SqT.of j7,rfl,?_⟩
    refine ⟨_,_,rfl,_,_,rfl,rfl,?_⟩
    walk_at "r"
    clear M6
    generalize upd H6 t (.tup [.int i,.ref a])=H7 at *
    have S7:=S.fr T M7.R
    have hm:=au hy
    have haD:c.D a:=.inr ⟨_,hm,rfl⟩
    obtain ⟨_,ha0⟩:=S.inD haD
    refine kK (kvs:=ns.map kvI) (S7.ld _ hm) (λo n σ H8=>∃(x:Option V) (lds:List (Addr×List (Key×V))),σ=[some (.ref sd),some (.ref p),x,some (.int i),some (.ref a)]/\H8 a=some (.frz o (.dK (ns.map kvI)))/\MdI C Pt p c H H8 { g with kvs:=c.sk.map kvA,lds:=lds }/\LdN g.lds c.lds i n lds) ?_ ?_ ?_ ?_
    ·intro o H8 f8
     exact ⟨x,lds,rfl,f8.1,M7.frz S haD f8,L6⟩
    ·rintro o n σ H8 hn ⟨x,lds,rfl,h8,M8,L8⟩
     exact h8
    ·clear L6 M7 S7
     rintro o n u σ H8 hq ⟨x,lds,rfl,h8,M8,L8⟩
     obtain ⟨z,hz,rfl⟩:=VJ hq
     have hzm:=au hz
     obtain ⟨y0,y1,m0,m1⟩:=O.m2 _ hm z hzm
     have hl8:=L8.len
     have hi8:i<lds.length:=by
      have:=(List.getElem?_eq_some_iff.mp hy).1
      omega
     have hsl:g.slopes.length=lds.length:=by rw [esl,af,hl8,ll4,O.ldl]
     show wU 2 (V.int z.1) _ _ _
     walk_at "r"
     refine ⟨p,g.dx,_,rfl,M8.I.ob,qz ∅,?_⟩
     walk_at "r"
     refine ⟨a,.int z.2,rfl,(by rw [<- kN (O.m1 _ hm) hzm,<- vJ ns z.1 (b9 hzm)];exact .inl ⟨_,.inl z.1,.inr ⟨o,h8⟩,rfl,rfl⟩),?_⟩
     refine ⟨p,_,(i:Int),z.1,z.2,rfl,M8.I,hsl.symm,(λx hx=>by obtain ⟨y,hy,e⟩:=L8.mem hx;rw [<- e];exact ny4 y hy),(by show (lds.map (·.1)).Nodup;rw [L8.fst];exact nd4),(λx hx=>?_),λH9 a9 kvs9 _ _ _ _ _ _ ha9 X9 I9=>?_,(λhb=>absurd hb (by show ¬((i:Int)<0\/(g.slopes.length:Int)<=i);omega)),(λ_ _ hb=>absurd hb ()),λ_ _ _ _ hb=>absurd hb ()⟩
     ·obtain ⟨j,hj,ex⟩:=List.mem_iff_getElem.mp hx
      obtain ⟨y,hy,e⟩:=L8.at_ j x (by rw [aa hj,ex])
      have h10:=O.m3 y (au hy)
      rw [e,af]
      split
      ·omega
      ·split
       ·rw [aW];omega
       ·exact aJ _
     ·have ha9:lds[i]? = some (a9,kvs9):=ha9
      have L9:=L8.put hy (O.m1 _ hm) hz ha9
      have a90:H a9=none:=M8.F.lds _ (au ha9)
      refine ⟨_,_,rfl,X9 _ _ h8 (j1 ha0 a90),⟨I9,⟨F4.p,F4.va,F4.cy,F4.sl,F4.ye,F4.le,F4.zs,λx hx=>?_⟩,M8.R.ext X9 a90,Jf M8.T (M8.I.lds _ (au ha9)) X9⟩,L9⟩
      obtain ⟨y,hy,e⟩:=L9.mem hx
      rw [<- e]
      exact F4.lds y hy
    ·rintro o σ H8 ⟨x,lds,rfl,h8,M8,L8⟩
     exact ⟨x,_,_,lds,rfl,M8,L8.next hy (by rw [af];exact ao _)⟩
   ·rintro σ H6 ⟨x,y,z,lds,rfl,M6,L6⟩
    walk_at "r"
    refine k p H6 _ M6.I M6.F M6.R M6.T e1 e2 esl rfl (L6.len.trans ll4) (λl x hx=>?_) (λx hx=>?_) (by show (lds.map (·.1)).Nodup;rw [L6.fst];exact nd4)
    ·obtain ⟨y,hy,e⟩:=L6.at_ l x hx
     refine ⟨y,hy,?_⟩
     rw [e,if_pos (by rw [af];exact (List.getElem?_eq_some_iff.mp hy).1)]
    ·obtain ⟨y,hy,e⟩:=L6.mem hx
     rw [<- e]
     exact ny4 y hy
theorem uh {rs:List Rch}(h:xZ rs=true):1<=rs.length/\rs.length<=8/\vQ rs=true/\∀ws,jQ rs ws->∀w∈ws,(ja rs w).length<=30:=by
 unfold xZ at h
 rw [bh,bh,bh] at h
 obtain ⟨h1,h2,_,h4⟩:=h
 have h1:=of_decide_eq_true h1
 refine ⟨(),(),h2,λws hR w hw=>?_⟩
 obtain ⟨x,hx,e⟩:=hR.mem hw
 have:=of_decide_eq_true (List.all_eq_true.mp h4 x hx)
 have g:=wc rs w
 rw [<- e] at this
 omega
theorem uL {rs:List Rch}(G:Grown rs) {ws:List (List Int)}(R:jQ rs ws) {w:List Int}(hw:w∈ws):1<=(ja rs w).length:=by
 obtain ⟨x,hx,e⟩:=R.mem hw
 have hl:=xf hx
 have o:=gz G.ok (aa hl)
 unfold okR at o
 rw [bh,bh] at o
 have o:=of_decide_eq_true o.1.2
 have eh:zo rs ((x:Int)).toNat=(rs[x]'hl).2:=by
  unfold zo
  rw [bK,ak,aa hl]
  rfl
 rw [e,xX (jV G.ok) hl]
 unfold ja
 rw [aH,i6,av,eh]
 omega
theorem gq {L b Pt:Addr}{Ha Hb:Hp}(B:jR L Ha b) (e:Ext b Ha Hb) (T:qm Ha Pt):qm Hb Pt:=by
 obtain ⟨ns,a,r,c,d,h1,_⟩:=B
 exact T.ext h1 e
structure Lw (C L b sd p:Addr) (c:ScN) (g:IceG) (H0 H:Hp):Prop where
 B:jR L H b
 S:ScAt H sd c
 I:IceAt C H p g
 O:ScOk b c
 F:IceFr H0 p g
 B0:jR L H0 b
 S0:ScAt H0 sd c
theorem Lw.same {C L b sd p:Addr}{c:ScN}{g:IceG}{H0 H H':Hp}(W:Lw C L b sd p c g H0 H) (s:jn H H'):Lw C L b sd p c g H0 H':=⟨W.B.same s,W.S.same s,W.I.same s,W.O,W.F,W.B0,W.S0⟩
theorem Lw.take {C L b sd p:Addr}{c:ScN}{g:IceG}{H0 H H':Hp}(W:Lw C L b sd p c g H0 H) (B:jR L H' b) (X:Ext b H H'):Lw C L b sd p c g H0 H' :=
 ⟨B,W.S.ext W.O W.B X,W.I.stay W.F (λa o h n=>X a o h (W.B0.ne n)) (qa W.B X),W.O,W.F,W.B0,W.S0⟩
theorem Lw.start {C L b sd p Pt:Addr}{c:ScN}{g:IceG}{H2 H3:Hp}(S2:ScAt H2 sd c) (O:ScOk b c) (B2:jR L H2 b) (T2:qm H2 Pt) (I3:IceAt C H3 p g) (F3:IceFr H2 p g) (R3:Fr3 (λa=>a=Pt) c.D H2 H3):Lw C L b sd p c g H2 H3:=by
 refine ⟨?_,S2.fr T2 R3,I3,O,F3,B2,S2⟩
 obtain ⟨ps,hP⟩:=T2.ne
 obtain ⟨ns,a,r,c,d,h1,h2,h3,h4⟩:=B2
 exact ⟨ns,a,r,c,d,R3.at h1 (jh h1 hP (by walk_at "z")) (by walk_at "w"),h2,R3.at h3 (jh h3 hP (by walk_at "z")) (by walk_at "w"),h4⟩
structure Lk (c:ScN) (g:IceG):Prop where
 rs:g.rs=c.rs
 rows:g.rows=c.ts
 sl:g.slopes=c.ws.map (ja c.rs)
 kv:g.kvs=c.sk.map kvA
 ll:g.lds.length=c.lds.length
 ld:∀(l:Nat) x,g.lds[l]? = some x->∃y,c.lds[l]? = some y/\x.2=y.2.map kvI
 ny:∀x∈g.lds,x.1≠g.ye
 nd:(g.lds.map (·.1)).Nodup
structure LaneF (c:ScN) (g:IceG) (ln:Int) (wy:List Int) (da:Addr) (dn:List (Int×Int)):Prop where
 way:c.ws[ln.toNat]? = some wy
 sl:g.slopes.getD ln.toNat []=ja c.rs wy
 g1:1<=(ja c.rs wy).length
 g30:(ja c.rs wy).length<=30
 cd:c.lds[ln.toNat]? = some (da,dn)
 D:c.D da
 nd:(dn.map (·.1)).Nodup
 b:∀q∈dn,0<=q.1/\q.1<=99/\1<=q.2/\q.2<=9
 l10:dn.length<=10
 at_:XG g ln dn
 l0:0<=ln
 l1:ln<(g.slopes.length:Int)
theorem Lk.lane {b:Addr}{c:ScN}{g:IceG}(k:Lk c g) (O:ScOk b c) {ln:Int}(h0:0<=ln) (h1:ln<(c.ws.length:Int)):∃wy da dn,LaneF c g ln wy da dn:=by
 have hi:ln.toNat<c.ws.length:=()
 have hwy:=aa hi
 have hgs:g.slopes[ln.toNat]? = some (ja c.rs (c.ws[ln.toNat]'hi)):=by rw [k.sl,ar,hwy];rfl
 have hl:g.slopes.length=c.ws.length:=by rw [k.sl,af]
 obtain ⟨⟨da,dn⟩,hda⟩:∃z,c.lds[ln.toNat]? = some z:=⟨_,aa (by rw [O.ldl];omega)⟩
 have hdm:=au hda
 obtain ⟨⟨da2,dk⟩,hda2⟩:∃z,g.lds[ln.toNat]? = some z:=⟨_,aa (by rw [k.ll,O.ldl];omega)⟩
 obtain ⟨_,q1,q2⟩:=k.ld _ _ hda2
 rw [hda] at q1
 cases q1
 obtain rfl:dk=dn.map kvI:=q2
 have hm:=bH hi
 have h10:dn.length<=10:=O.m3 _ hdm
 exact ⟨_,da,dn,hwy,by rw [ak,hgs];rfl,uL O.gr O.ro hm,(uh (O.gr.good O.l1 O.l8)).2.2.2 c.ws O.ro _ hm,hda,.inr ⟨_,hdm,rfl⟩,O.m1 _ hdm,O.m2 _ hdm,h10,⟨h0,(),⟨da2,hda2⟩,O.m1 _ hdm,(),λq hq=>by have:=O.m2 _ hdm q hq;omega⟩,h0,()⟩
theorem LaneF.pos {c:ScN}{g:IceG}{ln:Int}{wy:List Int}{da:Addr}{dn:List (Int×Int)}(L:LaneF c g ln wy da dn):∀q∈dn,0<=q.1/\0<=q.2:=λq hq=>by have:=L.b q hq;omega
theorem Qu {ns:List (Int×Int)}(h:∀q∈ns,0<=q.2) {y z:Int}(yz:y<=z):jq ns y<=jq ns z:=by
 induction ns with
 | nil=>exact cV _
 | cons q r ih =>
  rw [jO,jO]
  have a:=h q (aC ..)
  have b:=ih λz hz=>h z (az _ hz)
  by_cases e:q.1<=y
  ·rw [if_pos e,if_pos ()];omega
  ·rw [if_neg e]
   split <;> omega
theorem zC {ns ms:List (Int×Int)}(p:ms.Perm ns) (s:(ms.map (·.1)).Pairwise (· <= ·)) (nd:(ns.map (·.1)).Nodup) (h:∀q∈ns,0<=q.1/\0<=q.2) (one len y:Int) (hy:0<=y):(0<=y+jq ns y-one/\y+jq ns y-one<len)↔(js 0 0 ms one<=y/\y<js 0 0 ms (one+len)):=by
 have hm:∀q∈ms,0<=q.1/\0<=q.2:=λq hq=>h q (p.mem_iff.mp hq)
 have ndm:(ms.map (·.1)).Nodup:=(p.map (·.1)).nodup_iff.mpr nd
 have st:=xi s ndm
 have key:∀goal:Int,(goal<=y+jq ns y↔js 0 0 ms goal<=y):=λgoal=>by
  have:=ke ms 0 0 goal y hm st hy
  rw [yK p,Int.add_zero] at this
  exact this
 have a:=key one
 have b:=key (one+len)
 constructor
 ·rintro ⟨c,d⟩
  refine ⟨a.mp (),?_⟩
  have:=mt b.mpr ()
  omega
 ·rintro ⟨c,d⟩
  have a':=a.mpr c
  have b':=mt b.mp ()
  omega
theorem uo {ns ms:List (Int×Int)}(p:ms.Perm ns) (s:(ms.map (·.1)).Pairwise (· <= ·)) (h:∀q∈ns,0<=q.1/\0<=q.2) (goal:Int):0<=js 0 0 ms goal:=uZ ms 0 0 goal (λq hq=>(h q (p.mem_iff.mp hq)).1) s
theorem QN {ns ms:List (Int×Int)}(p:ms.Perm ns) (s:(ms.map (·.1)).Pairwise (· <= ·)) (nd:(ns.map (·.1)).Nodup) (h:∀q∈ns,0<=q.1/\0<=q.2) (one len:Int) (hl:js 0 0 ms one<js 0 0 ms (one+len)):js 0 0 ms (one+len)-1-js 0 0 ms one<len:=by
 have f0:=uo p s h one
 have a:=(zC p s nd h one len _ f0).mpr ⟨cV _,hl⟩
 have b:=(zC p s nd h one len (js 0 0 ms (one+len)-1) ()).mpr ⟨(),()⟩
 have m:=Qu (λq hq=>(h q hq).2) (y:=js 0 0 ms one) (z:=js 0 0 ms (one+len)-1) ()
 omega
def Y8:Sp:=λvs H Q _=>∃(L b sd:Addr) (c:ScN),vs=[.ref b,.ref sd]/\jR L H b/\ScAt H sd c/\ScOk b c/\1<=c.ws.length/\c.ws.length<=6/\(∀w∈c.ws,1<=(ja c.rs w).length/\(ja c.rs w).length<=30) /\
 ∀(ln n:Int) (w:List Int) (t:Addr) (H':Hp),0<=ln->ln<(c.ws.length:Int)->c.ws[ln.toNat]? = some w->0<=n->n<((ja c.rs w).length:Int)->jR L H' b->Ext b H H'->H t=none->H' t=some (.tup [.int ln,.int n])->Q (.ref t) H'
theorem ug:FnScope ["_law_box_here","_law_scene_here","_law_lane"] ["_law_box_here","_law_scene_here"] (j8 yV):=by walk_at "s"
theorem Yr {f:Addr}{fd:FuncData}(nb:Nb2 mg) (c_law_take:Cal P w K mg base 2 "_law_take" ["_law_box_here","_law_size"] xb) (F:Fun K "_law_spot" "_law_spot" yV f fd):FnOk P w K mg base CX0 3 f fd ["_law_box_here","_law_scene_here"] Y8:=by
 refine F.ok ug (λvs H Q E h=>?_) (λcdv A outer s H vs Q E hr h=>?_)
 ·obtain ⟨L,b,sd,c,rfl,_⟩:=h
  rfl
 ·obtain ⟨L,b,sd,c,rfl,B,S,O,hw1,hw6,hg,k⟩:=h
  have hzl:c.zs.length=c.ws.length:=(aP S.gi).trans (af _)
  refine ⟨_,(j4 (ju 2 ug.nd (jd c_law_take (hr.mono ⋯) rfl (j0 (pv 0) (j0 (jg (jf K) rfl nb.b_len aT (j0 (jC (jK hr) (pv 1) jw (λ_ _=>rfl)) j2)) j2))))
   (j9 (jj (qZ (j0 (pv 2) (j0 (jd c_law_take (hr.mono ⋯) rfl (j0 (pv 0) (j0 (jg (jf K) rfl nb.b_len aT (j0 (jp (jb K) (jC (jK hr) (pv 1) jw (λ_ _=>rfl)) (pv 2) (λ_ _=>rfl)) j2)) j2))) j2)))))),?_⟩
  walk_at "r"
  refine ⟨sd,.ref c.gl,rfl,by rw [<- yR c.p c.q c.sg c.gl c.ll];exact qP.k (k:=.inr "grounds") S.sd,?_⟩
  walk_at "r"
  refine ⟨c.gl,_,rfl,.inl (SqL.of S.gl),?_⟩
  walk_at "r"
  refine ⟨L,b,_,rfl,B,⟨(),()⟩,λln H1 ln0 ln1 B1 X1=>?_⟩
  have S1:=S.ext O B X1
  have hi:ln.toNat<c.zs.length:=()
  obtain ⟨gw,hgw,ga,ega,hga⟩:=Paired.get S1.gi (aa hi)
  rw [ar] at hgw
  obtain ⟨wy,hwy,rfl⟩:=Option.map_eq_some_iff.mp hgw
  have hgb:=hg wy (au hwy)
  walk_at "r"
  refine ⟨sd,.ref c.gl,rfl,by rw [<- yR c.p c.q c.sg c.gl c.ll];exact qP.k (k:=.inr "grounds") S1.sd,?_⟩
  walk_at "r"
  refine ⟨_,_,_,_,rfl,rfl,SqL.of S1.gl,qx ln0 (v:=V.ref ga) (by rw [aa hi,ega]),?_⟩
  walk_at "r"
  refine ⟨ga,_,rfl,.inl (SqL.of hga),?_⟩
  rw [af]
  walk_at "r"
  refine ⟨L,b,_,rfl,B1,⟨(),()⟩,λn H2 n0 n1 B2 X2=>?_⟩
  walk_at "r"
  refine ⟨by show 2<=sizeLine;decide,λt H3 ht ht3 s3=>?_⟩
  have tb:t≠b:=B2.ne ht
  exact k ln n wy t H3 ln0 () hwy n0 n1 (B2.same s3) ((X1.trans X2).trans (Ext.of_same s3)) (X1.free (X2.free ht tb) tb) ht3
def chg (t:T3) (h:Int):Int:=if t.1<=h then t.2.1 else-t.2.2
def gW:Sp:=λvs H Q _=>∃(p:Addr) (t:T3) (h:Int),vs=[.ref p,.int h]/\H p=some (zj t)/\Q (.int (chg t h)) H
theorem yp:FnScope ["row","height","line","snow","sun"] ["row","height"] (j8 uS):=by walk_at "s"
theorem XN {f:Addr}{fd:FuncData}(F:Fun K "change" "change" uS f fd):FnOk P w K mg base CX0 1 f fd ["row","height"] gW:=by
 refine F.ok yp (λvs H Q E h=>?_) (λcdv A outer s H vs Q E hr h=>?_)
 ·obtain ⟨p,t,h,rfl,_⟩:=h
  rfl
 ·obtain ⟨p,t,h,rfl,hp,k⟩:=h
  unfold chg at k
  refine ⟨_,(j4 (xR (pv 0) (qI (n:=3) K rfl (jr (jc (i:=2) yp.nd rfl (aS rfl)) (jr (jc (i:=3) yp.nd rfl (aS rfl)) (jr (jc (i:=4) yp.nd rfl (aS rfl)) qN)))))
   (j4 (qj (jI Jt (pv 1) (pv 2) (qe _)) (j9 (jj (pv 3))) jD)
   (j9 (jj (uK yL (pv 4)))))),?_⟩
  walk_at "r"
  refine ⟨p,_,rfl,SqT.of hp,rfl,?_⟩
  refine ⟨_,_,rfl,_,_,rfl,_,_,rfl,rfl,?_⟩
  walk_at "r"
  refine qS (λh1=>?_) (λh1=>?_)
  ·walk_at "r"
   rw [if_pos h1] at k
   exact k
  ·walk_at "r"
   rw [if_neg h1] at k
   exact k
def qW (H:Hp) (sk:List (Int×Addr)) (wr:List (Int×T3)):Prop:=cf (λ(z:Int×Addr) (q:Int×T3)=>z.1=q.1/\H z.2=some (zj q.2)) sk wr
theorem qW.keep {H H':Hp}{sk:List (Int×Addr)}{wr:List (Int×T3)}(h:qW H sk wr) (t:ji H H'):qW H' sk wr:=Paired.mapP h λ_ _ ⟨e,q⟩=>⟨e,t _ _ q⟩
theorem qW.of {H:Hp}:∀{sk:List (Int×Addr)},(∀z∈sk,∃t,H z.2=some (zj t)/\good t=true)->∃wr,qW H sk wr
 | [],_=>⟨[],.nil⟩
 | z::r,h=>by
  obtain ⟨t,ht,_⟩:=h z (aC ..)
  obtain ⟨wr,hw⟩:=qW.of (sk:=r) λu hu=>h u (az _ hu)
  exact ⟨(z.1,t)::wr,.cons ⟨rfl,ht⟩ hw⟩
def zR (wr:List (Int×T3)) (ts:List T3) (y:Int):T3 :=
 match wr.find? λq=>decide (q.1=y) with
 | some q=>q.2
 | none=>ts.getD (y % (ts.length:Int)).toNat (0,0,0)
theorem JO {H:Hp}:∀{sk:List (Int×Addr)}{wr:List (Int×T3)},qW H sk wr->∀y:Int,
  (∃a q,qy (sk.map kvA) (.inl y)=some (.ref a)/\(wr.find? λq=>decide (q.1=y))=some q/\H a=some (zj q.2))\/(qy (sk.map kvA) (.inl y)=none/\(wr.find? λq=>decide (q.1=y))=none)
 | _,_,.nil,y=>.inr ⟨rfl,rfl⟩
 | z::sk,q::wr,.cons ⟨e,h⟩ r,y=>by
  rw [aH]
  by_cases c:z.1=y
  ·subst c
   exact .inl ⟨z.2,q,xg,by rw [cc (by rw [decide_eq_true e.symm])],h⟩
  ·have e1:qy (kvA z::sk.map kvA) (.inl y)=qy (sk.map kvA) (.inl y):=jt λw=>c (dU w)
   have e2:((q::wr).find? λq=>decide (q.1=y))=wr.find? λq=>decide (q.1=y):=bS (by rw [decide_eq_false (by rw [<- e];exact c)];exact aq)
   rw [e1,e2]
   exact JO r y
theorem Vu {H:Hp}{ys:List V}{ts:List T3}(r:qh H ys ts) (h1:1<=ts.length) (y:Int):∃a,atI ys (y % (ys.length:Int))=some (.ref a)/\H a=some (zj (ts.getD (y % (ts.length:Int)).toNat (0,0,0))):=by
 have hl:ys.length=ts.length:=r.length
 have n0:(0:Int)<ts.length:=()
 have m0:=cS y (show (ts.length:Int)≠0 by omega)
 have m1:=cp y n0
 have hi:(y % (ts.length:Int)).toNat<ys.length:=()
 obtain ⟨t,ht,a,ea,ha⟩:=r.get (aa hi)
 refine ⟨a,?_,?_⟩
 ·rw [hl]
  exact qx m0 (by rw [aa hi,ea])
 ·rw [ak,ht]
  exact ha
def Vn (C:Addr):Sp:=λvs H Q _=>∃(p:Addr) (g:IceG) (y:Int) (sk:List (Int×Addr)) (wr:List (Int×T3)),vs=[.ref p,.int y]/\IceAt C H p g/\g.kvs=sk.map kvA/\qW H sk wr/\1<=g.rows.length/\g.rows.length<=1000/\∀t,H t=some (zj (zR wr g.rows y))->Q (.ref t) H
theorem JA:FnScope ["self","year"] ["self","year"] (j8 yH):=by walk_at "s"
theorem JK {f C:Addr}{fd:FuncData}(nb:Nb2 mg) (T:IceC K C) (F:Fun K "sky" "Ice.sky" yH f fd):FnOk P w K mg base CX0 1 f fd ["self","year"] (Vn C):=by
 refine F.ok JA (λvs H Q E h=>?_) (λcdv A outer s H vs Q E hr h=>?_)
 ·obtain ⟨p,g,y,sk,wr,rfl,_⟩:=h
  rfl
 ·obtain ⟨p,g,y,sk,wr,rfl,I,ek,hw,h1,h2,k⟩:=h
  have hye:H g.ye=some (.dK (sk.map kvA)):=by rw [<- ek];exact I.ye
  obtain ⟨ra,hra,hrow⟩:=Vu I.rows h1 y
  refine ⟨_,(j9 (jj (J9 (jK hr) (qY K (pv 0)) (pv 1) (jp (jb K) (qY K (pv 0)) (jo xn (pv 1) (jg (jf K) rfl nb.b_len aT (j0 (qY K (pv 0)) j2))) (λ_ _=>rfl)) ⟨rfl,rfl,rfl,rfl⟩))),?_⟩
  walk_at "r"
  refine ⟨p,C,g.dx,_,_,rfl,I.ob,T.cl,T.nY,wI _ _ _ _ _,?_⟩
  walk_at "r"
  refine ⟨.inl ⟨_,.inl hye⟩,?_⟩
  walk_at "r"
  refine ⟨p,C,g.dx,_,_,rfl,I.ob,T.cl,T.nC,wj _ _ _ _ _,?_⟩
  walk_at "r"
  refine ⟨p,C,g.dx,_,_,rfl,I.ob,T.cl,T.nC,wj _ _ _ _ _,?_⟩
  walk_at "r"
  refine ⟨g.cy,_,rfl,.inl (SqL.of I.cy),?_⟩
  have hl:g.ys.length=g.rows.length:=I.rows.length
  walk_at "r"
  refine ⟨_,_,_,_,rfl,rfl,SqL.of I.cy,hra,?_⟩
  rcases JO hw y with ⟨a,q,e1,e2,h⟩ | ⟨e1,e2⟩
  ·refine ⟨some (.ref a),by rw [<- e1];exact qP.k (k:=.inl y) hye,?_⟩
   exact k a (by unfold zR;rw [e2];exact h)
  ·refine ⟨none,by rw [<- e1];exact qP.k (k:=.inl y) hye,?_⟩
   exact k ra (by unfold zR;rw [e2];exact hrow)
abbrev Q4:=Int×Int×Int×Int
abbrev tup4 (q:Q4):HO:=.tup [.int q.1,.int q.2.1,.int q.2.2.1,.int q.2.2.2]
def xM (H:Hp) (out:List V) (qs:List Q4):Prop:=cf (λv (q:Q4)=>∃b,v=V.ref b/\H b=some (tup4 q)) out qs
theorem xM.keep {H H':Hp}{out:List V}{qs:List Q4}(h:xM H out qs) (t:ji H H'):xM H' out qs:=Paired.mapP h λ_ _ ⟨b,e,q⟩=>⟨b,e,t _ _ q⟩
def plc (ns:List (Int×Int)) (m y:Int):Int:=y+jq ns y-m
def xF (ns:List (Int×Int)) (gd:List Int) (wr:List (Int×T3)) (ts:List T3) (m y:Int):Int:=chg (zR wr ts y) (gd.getD (plc ns m y).toNat 0)
def zD (ns:List (Int×Int)) (gd:List Int) (wr:List (Int×T3)) (ts:List T3) (m fst:Int):Nat->Int
 | 0=>0
 | i+1=>zD ns gd wr ts m fst i+(if xF ns gd wr ts m (fst+(i:Int)) > - zD ns gd wr ts m fst i then xF ns gd wr ts m (fst+(i:Int)) else-zD ns gd wr ts m fst i)
def vt (ns:List (Int×Int)) (gd:List Int) (wr:List (Int×T3)) (ts:List T3) (m fst:Int) (i:Nat):Q4 :=
 (fst+(i:Int),plc ns m (fst+(i:Int)),(if xF ns gd wr ts m (fst+(i:Int)) > - zD ns gd wr ts m fst i then xF ns gd wr ts m (fst+(i:Int)) else-zD ns gd wr ts m fst i),zD ns gd wr ts m fst (i+1))
def ud (ns:List (Int×Int)) (gd:List Int) (wr:List (Int×T3)) (ts:List T3) (m fst:Int) (n:Nat):List Q4:=(aO n).map (vt ns gd wr ts m fst)
def jS (ms:List (Int×Int)) (gd:List Int) (wr:List (Int×T3)) (ts:List T3) (m:Int):List Q4:=ud ms gd wr ts m (js 0 0 ms m) (js 0 0 ms (m+(gd.length:Int))-js 0 0 ms m).toNat
theorem Qf (ns:List (Int×Int)) (gd:List Int) (wr:List (Int×T3)) (ts:List T3) (m fst:Int) (n:Nat):ud ns gd wr ts m fst (n+1)=ud ns gd wr ts m fst n++[vt ns gd wr ts m fst n]:=by
 unfold ud
 rw [cR,aE]
 rfl
theorem ul:∀{xs ys:List (Int×Int)},xs.Perm ys->(xs.map (·.1)).Pairwise (· < ·)->(ys.map (·.1)).Pairwise (· < ·)->xs=ys
 | [],ys,p,_,_=>p.nil_eq
 | x::r,[],p,_,_=>absurd p.length_eq (by simp)
 | x::r,y::t,p,hx,hy=>by
  rw [aH,dS] at hx hy
  have e:x=y:=by
   rcases List.mem_cons.mp (p.mem_iff.mpr (aC (a:=y) (l:=t))) with e | e
   ·exact e.symm
   ·rcases List.mem_cons.mp (p.mem_iff.mp (aC (a:=x) (l:=r))) with e2 | e2
    ·exact e2
    ·have a:=hx.1 _ (b9 e)
     have b:=hy.1 _ (b9 e2)
     omega
  subst e
  rw [ul (ma p) hx.2 hy.2]
theorem yx {ns ms os:List (Int×Int)}(nd:(ns.map (·.1)).Nodup) (p:ms.Perm ns) (s:(ms.map (·.1)).Pairwise (· <= ·)) (q:os.Perm ns) (t:(os.map (·.1)).Pairwise (· <= ·)):os=ms :=
 ul (q.trans p.symm) (xi t ((q.map (·.1)).nodup_iff.mpr nd)) (xi s ((p.map (·.1)).nodup_iff.mpr nd))
theorem wG:∀{ns:List (Int×Int)},(ns.map (·.1)).Nodup->∀y:Int,jq ns (y+1)=jq ns y+qG ns (y+1)
 | [],_,y=>rfl
 | q::r,nd,y=>by
  rw [aH] at nd
  obtain ⟨h1,h2⟩:=List.nodup_cons.mp nd
  have ih:=wG h2 y
  rw [jO,jO]
  unfold qG
  by_cases e:q.1=y+1
  ·have z:qG r (y+1)=0:=by
    have:∀{l:List (Int×Int)} {y:Int},y∉l.map (·.1)->qG l y=0:=λ{l}=>by
     induction l with
     | nil=>intro _ _;rfl
     | cons a t ih2 =>
      intro y hy
      rw [aH,oF,not_or] at hy
      unfold qG
      rw [if_neg (λz=>hy.1 z.symm)]
      exact ih2 hy.2
    exact this (by rw [<- e];exact h1)
   rw [if_pos e,if_pos (),if_neg ()]
   omega
  ·rw [if_neg e]
   by_cases l:q.1<=y
   ·rw [if_pos l,if_pos ()];omega
   ·rw [if_neg l,if_neg ()];omega
theorem k8:∀(ns:List (Int×Int)) (y:Int),(qy (ns.map kvI) (.inl y)).getD (.int 0) = .int (qG ns y)
 | [],y=>rfl
 | q::r,y=>by
  rw [aH]
  unfold qG
  by_cases e:q.1=y
  ·subst e
   rw [if_pos rfl,show qy (kvI q::r.map kvI) (.inl q.1)=some (.int q.2) from xg]
   rfl
  ·rw [if_neg e,show qy (kvI q::r.map kvI) (.inl y)=qy (r.map kvI) (.inl y) from jt λw=>e (dU w)]
   exact k8 r y
def ZO (C CN:Addr):Sp:=λvs H Q E=>∃(p:Addr) (g:IceG) (l m:Int) (sk:List (Int×Addr)) (wr:List (Int×T3)),vs=[.ref p,.int l,.int m]/\IceAt C H p g/\g.lds.length=g.slopes.length/\g.kvs=sk.map kvA/\qW H sk wr/\1<=g.rows.length/\g.rows.length<=1000 /\
 (∀H',jn H H'->l<0\/(g.slopes.length:Int)<=l->E (.ref CN) none H') /\
 (0<=l->l<(g.slopes.length:Int)->∃ns ms,XG g l ns/\(∀q∈ns,0<=q.1)/\(g.slopes.getD l.toNat []).length<=100/\ms.Perm ns/\(ms.map (·.1)).Pairwise (· <= ·) /\
  ∀o H' out,H o=none->H' o=some (.lst out)->xM H' out (jS ms (g.slopes.getD l.toNat []) wr g.rows m)->jn H H'->Q (.ref o) H')
theorem qL:FnScope ["ice","lane","mark","years","first","last","surges","leaps","place","rows","lying","year","moved"] ["ice","lane","mark"] (j8 Q0):=by walk_at "s"
theorem YO {f C CN CP:Addr}{fd:FuncData}(nb:Nb2 mg) (b_dict:mg "dict" = none) (cl_Ice:Cls K C) (c_span:CalX P w K mg base 3 "span" ["ice","lane","mark"] (ZH C CN)) (c_Ice__surges:CalMX P w K mg base 2 C "surges" ["self","lane"] (ym C CN)) (c_ride_by:Cal P w K mg base 1 "ride_by" ["surges","year"] wB)
  (c_change:Cal P w K mg base 1 "change" ["row","height"] gW) (c_Ice__sky:CalM P w K mg base 1 C "sky" ["self","year"] (Vn C)) (c_Ice__height:CalMX P w K mg base 3 C "height" ["self","lane","place"] (kj C CN CP))
  (F:Fun K "life" "life" Q0 f fd):FnOk P w K mg base (CX1 P w) 4 f fd ["ice","lane","mark"] (ZO C CN):=by
 refine Fun.okX F qL (λvs H Q E h=>?_) (λcdv A outer s H vs Q E hr h=>?_)
 ·obtain ⟨p,g,l,m,sk,wr,rfl,_⟩:=h
  rfl
 ·obtain ⟨p,g,l,m,sk,wr,rfl,I,hll,ek,hw,hr1,hr2,kx,k⟩:=h
  refine ⟨_,(j4 (ju 3 qL.nd (xw c_span (hr.mono ⋯) qt rfl (j0 (pv 0) (j0 (pv 1) (j0 (pv 2) j2)))))
   (j4 (qj (jI VP (pv 3) Zv (qe _)) (j9 (jj (jM j2))) jD)
   (j4 (xR (pv 3) (qI (n:=2) K rfl (jr (jc (i:=4) qL.nd rfl (aS rfl)) (jr (jc (i:=5) qL.nd rfl (aS rfl)) qN))))
   (j4 (ju 6 qL.nd (zp (pv 0) cl_Ice c_Ice__surges (hr.mono ⋯) qt (j0 (pv 1) j2)))
   (j4 (ju 7 qL.nd (jT (Qj K rfl) rfl b_dict dh (j0 (pv 6) j2)))
   (j4 (ju 8 qL.nd (jo xk (jd c_ride_by (hr.mono ⋯) rfl (j0 (pv 6) (j0 (pv 4) j2))) (pv 2)))
   (j4 (ju 9 qL.nd (jM j2))
   (j4 (ju 10 qL.nd j6)
   (j4 (Y1 (xh bt rfl (Zb rfl nb.b_range (j0 (pv 4) (j0 (jo jJ (pv 5) j6) j2))) (jc (i:=11) qL.nd rfl (aS rfl)) (j4 (ju 12 qL.nd (jg (yg rfl) rfl nb.b_max om (j0 (uK yL (pv 10)) (j0 (jd c_change (hr.mono ⋯) rfl (j0 (pe_m (pv 0) cl_Ice c_Ice__sky (hr.mono ⋯) (j0 (pv 11) j2)) (j0 (zp (pv 0) cl_Ice c_Ice__height (hr.mono ⋯) hV (j0 (pv 1) (j0 (pv 8) j2))) j2))) j2))))
   (j4 (Qc (i:=10) qL.nd rfl (aS rfl) (pv 12) Qr)
   (j4 (jU (zW K bC bz bA qv (pv 9) (j0 (qZ (j0 (pv 11) (j0 (pv 8) (j0 (pv 12) (j0 (pv 10) j2))))) j2)))
   (j9 (Qc (i:=8) qL.nd rfl (aS rfl) (jo jJ j6 (J9 (jK hr) (pv 7) (jo jJ (pv 11) j6) j6 ⟨rfl,rfl,rfl,rfl⟩)) Qr)))))))
   (j9 (jj (pv 9)))))))))))),?_⟩
  walk_at "r"
  refine ⟨p,g,l,m,rfl,I,hll,kx,λl0 l1=>?_⟩
  obtain ⟨ns,ms,⟨_,_,⟨a,ha⟩,nd,h64,h9⟩,hp0,g100,hp,hs,k⟩:=k l0 l1
  have hpos:∀q∈ns,0<=q.1/\0<=q.2:=λq hq=>⟨hp0 q hq,(h9 q hq).1⟩
  refine ⟨a,ns,ha,nd,h64,λos hos hss fst gon e1 e2=>?_⟩
  obtain rfl:=yx nd hp hs hos hss
  clear hos hss
  refine ⟨λhlt t H1 s1 ht1=>?_,λhlt H1 s1=>?_⟩
  ·have hn:(gon-1+1-fst).toNat=(gon-fst).toNat:=()
   have on:=λw hw=>zC hp hs nd hpos m (g.slopes.getD l.toNat []).length w hw
   have f0:=uo hp hs hpos m
   have spl:=QN hp hs nd hpos m (g.slopes.getD l.toNat []).length (by rw [<- e1,<- e2];exact hlt)
   unfold jS at k
   rw [<- e1,<- e2] at k spl
   rw [<- e1] at f0
   rw [<- e1,<- e2] at on
   have sper:=λy=>yK hp y
   have ndm:(os.map (·.1)).Nodup:=(hp.map (·.1)).nodup_iff.mpr nd
   have h9m:∀q∈os,0<=q.2/\q.2<=9:=λq hq=>h9 q (hp.mem_iff.mp hq)
   have hlm:os.length<64:=by rw [hp.length_eq];exact h64
   clear e1 e2
   generalize hgd:g.slopes.getD l.toNat []=gd at *
   walk_at "r"
   refine ⟨t,_,rfl,SqT.of ht1,rfl,?_⟩
   refine ⟨_,_,rfl,_,_,rfl,rfl,?_⟩
   walk_at "r"
   refine ⟨p,g.dx,_,rfl,s1 _ _ I.ob,qz ∅,?_⟩
   walk_at "r"
   refine ⟨p,g,l,rfl,I.same s1,hll,(λhb=>absurd hb ()),λ_ _=>⟨a,ns,ha,nd,h64,λso H2 out ms2 hso hso2 hq2 s2 hp2 hs2=>?_⟩⟩
   obtain rfl:=yx nd hp hs hp2 hs2
   walk_at "r"
   refine ⟨so,out,ms2,rfl,SqL.of hso2,hq2,ndm,(),λd H3 hd hd3 s3=>?_⟩
   have hd3:H3 d=some (.dK (ms2.map kvI)):=hd3
   walk_at "r"
   refine ⟨so,out,ms2,fst,rfl,s3 _ _ hso2,uT.same hq2 s3,(),h9m,λH4 s4=>?_⟩
   walk_at "r"
   refine ⟨aJ _,λrw_ H5 hrw hrw5 s5=>?_⟩
   have S4:jn H H4:=((s1.trans s2).trans s3).trans s4
   have d4:=s4 _ _ hd3
   have rw0:H rw_=none:=S4.free hrw
   walk_at "r"
   refine ⟨_,_,rfl,?_⟩
   refine xJ (λi σ H6=>∃(x y:Option V) (out6:List V),σ=[some (.ref p),some (.int l),some (.int m),some (.ref t),some (.int fst),some (.int (gon-1)),some (.ref so),some (.ref d),some (.int (plc ms2 m (fst+(i:Int)))),some (.ref rw_),some (.int (zD ms2 gd wr g.rows m fst i)),x,y]/\H6 rw_=some (.lst out6)/\out6.length=i/\xM H6 out6 (ud ms2 gd wr g.rows m fst i)/\Ext rw_ H4 H6) ?_ ?_ ?_
   ·refine ⟨none,none,[],?_,hrw5,rfl,.nil,λc o hc _=>s5 _ _ hc⟩
    rw [show fst+((0:Nat):Int)=fst by omega]
    rfl
   ·rintro i σ H6 hi ⟨x,y,out6,rfl,h6,hl6,r6,e6⟩
    rw [hn] at hi
    have y0:0<=fst+(i:Int):=()
    have onp:=(on _ y0).mpr ⟨(),()⟩
    rw [<- sper] at onp
    have onp:0<=plc ms2 m (fst+(i:Int))/\plc ms2 m (fst+(i:Int))<(gd.length:Int):=onp
    have s6:jn H4 H6:=λc o hc=>e6 c o hc (j1 hc hrw)
    have I6:=I.same (S4.trans s6)
    have hw6:qW H6 sk wr:=hw.keep (ji.same (S4.trans s6))
    walk_at "r"
    refine ⟨p,g.dx,_,rfl,I6.ob,qz ∅,?_⟩
    walk_at "r"
    refine ⟨p,g,fst+(i:Int),sk,wr,rfl,I6,ek,hw6,hr1,hr2,λtr htr=>?_⟩
    walk_at "r"
    refine ⟨p,g.dx,_,rfl,I6.ob,qz ∅,?_⟩
    walk_at "r"
    refine ⟨p,g,l,plc ms2 m (fst+(i:Int)),rfl,I6,λ_ _ _ _=>?_,(λhb=>absurd hb ()),λ_ _ hb=>absurd hb (by rw [hgd];omega)⟩
    rw [hgd]
    walk_at "r"
    refine ⟨tr,_,_,rfl,htr,?_⟩
    walk_at "r"
    refine ⟨_,_,rfl,?_⟩
    walk_at "r"
    refine ⟨.inl ⟨rfl,_,SqL.of h6⟩,?_⟩
    walk_at "r"
    refine ⟨by show 4<=sizeLine;decide,λtq H7 htq htq7 s7=>?_⟩
    refine ⟨_,_,_,rfl,rfl,s7 _ _ h6,je (),?_⟩
    have d7:upd H7 rw_ (.lst (out6++[.ref tq])) d=some (.dK (ms2.map kvI)):=by rw [j5 (j1 d4 hrw)];exact s7 _ _ (s6 _ _ d4)
    have tqr:tq≠rw_:=(j1 h6 htq).symm
    walk_at "r"
    refine ⟨.inl ⟨_,.inl d7⟩,?_⟩
    walk_at "r"
    refine ⟨_,qP.k (k:=.inl (fst+(i:Int)+1)) d7,?_⟩
    rw [k8]
    walk_at "r"
    have epl:plc ms2 m (fst+((i+1:Nat):Int))=plc ms2 m (fst+(i:Int))+(1+qG ms2 (fst+(i:Int)+1)):=by
     have:=wG ndm (fst+(i:Int))
     rw [show fst+((i+1:Nat):Int)=fst+(i:Int)+1 by omega]
     unfold plc
     omega
    refine ⟨_,_,out6++[.ref tq],by rw [epl];rfl,j7,by rw [av,hl6];rfl,?_,λc o hc n=>by rw [j5 n];exact s7 _ _ (e6 c o hc n)⟩
    rw [Qf]
    exact cu (r6.keep λa xs q=>by rw [j5 (jh (s7 _ _ q) (s7 _ _ h6) (by walk_at "z"))];exact s7 _ _ q) ⟨tq,rfl,by rw [j5 tqr];exact htq7⟩
   ·rintro σ H6 ⟨x,y,out6,rfl,h6,hl6,r6,e6⟩
    rw [hn] at r6
    walk_at "r"
    exact k rw_ H6 out6 rw0 h6 r6 (S4.trans λc o hc=>e6 c o hc (j1 hc hrw))
  ·have hz:(gon-fst).toNat=0:=()
   unfold jS at k
   rw [<- e1,<- e2,hz] at k
   walk_at "r"
   refine ⟨aJ _,λo H2 ho ho2 s2=>?_⟩
   exact k o H2 [] (s1.free ho) ho2 .nil (s1.trans s2)
theorem Vf (xs:List V) (k:Nat):gA xs none (some (k:Int))=xs.take k:=by
 unfold gA
 rw [HT.sIx_none,HT.sIx_nat,ou,Nat.sub_zero]
 by_cases h:k<=xs.length
 ·rw [ni h]
 ·rw [mP (),cG (ao _)]
  exact (cG ()).symm
theorem XH (xs:List V) (k:Nat):gA xs (some (k:Int)) none=xs.drop k:=by
 unfold gA
 rw [HT.sIx_none,HT.sIx_nat]
 by_cases h:k<=xs.length
 ·rw [ni h]
  exact cG (by rw [d0];omega)
 ·rw [mP (),eR (ao _),List.take_nil]
  exact (eR ()).symm
theorem xM.drop {H:Hp}:∀(n:Nat) {out:List V}{qs:List Q4},xM H out qs->xM H (out.drop n) (qs.drop n)
 | 0,_,_,r=>r
 | _+1,_,_,.nil=>.nil
 | n+1,_,_,.cons _ r=>xM.drop n r
theorem wf {ms:List (Int×Int)}{gd:List Int}{wr:List (Int×T3)}{ts:List T3}{m:Int}{i:Nat}(h:i<(js 0 0 ms (m+(gd.length:Int))-js 0 0 ms m).toNat):(jS ms gd wr ts m)[i]? = some (vt ms gd wr ts m (js 0 0 ms m) i):=by
 unfold jS ud
 rw [ar,lM h]
 rfl
theorem xL (ms:List (Int×Int)) (gd:List Int) (wr:List (Int×T3)) (ts:List T3) (m:Int):(jS ms gd wr ts m).length=(js 0 0 ms (m+(gd.length:Int))-js 0 0 ms m).toNat:=by
 unfold jS ud
 rw [af,bL]
def JN (C CN CP CY:Addr):Sp:=λvs H Q E=>∃(p:Addr) (g:IceG) (l n y:Int) (sk:List (Int×Addr)) (wr:List (Int×T3)),vs=[.ref p,.int l,.int n,.int y]/\IceAt C H p g/\g.lds.length=g.slopes.length/\g.kvs=sk.map kvA/\qW H sk wr/\1<=g.rows.length/\g.rows.length<=1000 /\
 (l<0\/(g.slopes.length:Int)<=l->E (.ref CN) none H)/\(0<=l->l<(g.slopes.length:Int)->n<0\/((g.slopes.getD l.toNat []).length:Int)<=n->E (.ref CP) none H) /\
 (0<=l->l<(g.slopes.length:Int)->0<=n->n<((g.slopes.getD l.toNat []).length:Int)->∃ns ms,XG g l ns/\(∀q∈ns,0<=q.1)/\(g.slopes.getD l.toNat []).length<=100/\ms.Perm ns/\(ms.map (·.1)).Pairwise (· <= ·)/\(∀H',jn H H'->y<0\/10 ^ 40<y->E (.ref CY) none H') /\
  (0<=y->y<=10 ^ 40->∀t a1 a2 out H',H t=none->H a1=none->H a2=none->H' t=some (.tup [.ref a1,.ref a2])->H' a1=some (.lst (out.take (y-js 0 0 ms (y+jq ns y-n)).toNat))->H' a2=some (.lst (out.drop (y-js 0 0 ms (y+jq ns y-n)).toNat))->xM H' out (jS ms (g.slopes.getD l.toNat []) wr g.rows (y+jq ns y-n))->jn H H'->Q (.ref t) H'))
theorem vW:FnScope ["ice","lane","place","year","rows","lived"] ["ice","lane","place","year"] (j8 uH):=by walk_at "s"
theorem XX {f C CN CP CY:Addr}{fd:FuncData}(cl_Ice:Cls K C) (c_Ice__check_place:CalMX P w K mg base 2 C "check_place" ["self","lane","place"] (zF C CN CP)) (c_ridden:CalX P w K mg base 3 "ridden" ["ice","lane","year"] (Jb C CN CY)) (c_life:CalX P w K mg base 4 "life" ["ice","lane","mark"] (ZO C CN))
  (F:Fun K "parted" "parted" uH f fd):FnOk P w K mg base (CX1 P w) 5 f fd ["ice","lane","place","year"] (JN C CN CP CY):=by
 refine Fun.okX F vW (λvs H Q E h=>?_) (λcdv A outer s H vs Q E hr h=>?_)
 ·obtain ⟨p,g,l,n,y,sk,wr,rfl,_⟩:=h
  rfl
 ·obtain ⟨p,g,l,n,y,sk,wr,rfl,I,hll,ek,hw,hr1,hr2,kl,kp,k⟩:=h
  refine ⟨_,(j4 (jU (zp (pv 0) cl_Ice c_Ice__check_place (hr.mono ⋯) qt (j0 (pv 1) (j0 (pv 2) j2))))
   (j4 (ju 4 vW.nd (xw c_life (hr.mono ⋯) qt rfl (j0 (pv 0) (j0 (pv 1) (j0 (jo xk (xw c_ridden (hr.mono ⋯) qt rfl (j0 (pv 0) (j0 (pv 1) (j0 (pv 3) j2)))) (pv 2)) j2)))))
   (j4 (ju 5 vW.nd (jo xk (pv 3) (jp (qo K) (jp (jb K) (pv 4) j6 (λ_ _=>rfl)) j6 (λ_ _=>rfl))))
   (j9 (jj (qZ (j0 (Ja (wV K) (pv 4) QW (QJ (pv 5))) (j0 (Ja (wV K) (pv 4) (QJ (pv 5)) QW) j2)))))))),?_⟩
  walk_at "r"
  refine ⟨p,g.dx,_,rfl,I.ob,qz ∅,?_⟩
  walk_at "r"
  refine ⟨p,g,l,n,rfl,I,λl0 l1 n0 n1=>?_,λhb=>kl hb,λl0 l1 hb=>kp l0 l1 hb⟩
  obtain ⟨ns,ms,hL,hp0,g100,hp,hs,ky,k⟩:=k l0 l1 n0 n1
  have hpos:∀q∈ns,0<=q.1/\0<=q.2:=λq hq=>⟨hp0 q hq,(hL.2.2.2.2.2 q hq).1⟩
  have nd:(ns.map (·.1)).Nodup:=hL.2.2.2.1
  walk_at "r"
  refine ⟨p,g,l,y,rfl,I,hll,(λhb=>absurd hb ()),λ_ _=>⟨ns,hL,ky,λH1 s1 y0 y1=>?_⟩⟩
  have k:=k y0 y1
  have e0:y+jq ns y-(y+jq ns y-n)=n:=()
  have onm:=(zC hp hs nd hpos (y+jq ns y-n) (g.slopes.getD l.toNat []).length y y0).mp (by rw [e0];exact ⟨n0,n1⟩)
  have hlo:=xL ms (g.slopes.getD l.toNat []) wr g.rows (y+jq ns y-n)
  have hg0:=wf (ms:=ms) (gd:=g.slopes.getD l.toNat []) (wr:=wr) (ts:=g.rows) (m:=y+jq ns y-n) (i:=0) ()
  obtain ⟨m,em⟩:∃m,y+jq ns y-n=m:=⟨_,rfl⟩
  rw [em] at k onm hlo hg0
  walk_at "r"
  refine ⟨p,g,l,m,sk,wr,by rw [<- em],I.same s1,hll,ek,hw.keep (ji.same s1),hr1,hr2,(λH' _ hb=>absurd hb ()),λ_ _=>⟨ns,ms,hL,hp0,g100,hp,hs,λo H2 out ho ho2 r2 s2=>?_⟩⟩
  have hol:out.length=(jS ms (g.slopes.getD l.toNat []) wr g.rows m).length:=aP r2
  have h0:0<out.length:=()
  obtain ⟨q0,hq0,b0,ev0,hb0⟩:=Paired.get r2 (aa h0)
  rw [hg0] at hq0
  have eq0:q0.1=js 0 0 ms m:=by
   cases hq0
   show js 0 0 ms m+((0:Nat):Int)=_
   omega
  have hb0:H2 b0=some (.tup [.int q0.1,.int q0.2.1,.int q0.2.2.1,.int q0.2.2.2]):=hb0
  walk_at "r"
  refine ⟨_,_,_,_,rfl,rfl,SqL.of ho2,qx ⋯ (v:=V.ref b0) (by show out[0]? = _;rw [aa h0,ev0]),?_⟩
  walk_at "r"
  have ek2:y-q0.1=(((y-js 0 0 ms m).toNat:Nat):Int):=by rw [eq0];omega
  refine ⟨_,_,rfl,SqL.of ho2,λa1 H3 ha1 ha13 s3=>?_⟩
  walk_at "r"
  refine ⟨_,_,rfl,SqL.of (s3 _ _ ho2),λa2 H4 ha2 ha24 s4=>?_⟩
  have ha13:H3 a1=some (.lst (out.take (y-js 0 0 ms m).toNat)):=by rw [ha13,<- Vf,<- ek2]
  have ha24:H4 a2=some (.lst (out.drop (y-js 0 0 ms m).toNat)):=by rw [ha24,<- XH,<- ek2]
  walk_at "r"
  refine ⟨by show 2<=sizeLine;decide,λt H5 ht ht5 s5=>?_⟩
  have t2:=s1.trans s2
  have t3:=t2.trans s3
  exact k t a1 a2 out H5 ((t3.trans s4).free ht) (t2.free ha1) (t3.free ha2) ht5 (s5 _ _ (s4 _ _ ha13)) (s5 _ _ ha24) (r2.keep (ji.same (s3.trans (s4.trans s5)))) (t3.trans (s4.trans s5))
section
variable {L:List Q4}{dp mv pl:Nat->Int}{fst:Int}{n:Nat}
end
theorem wJ (ns:List (Int×Int)):∃ms:List (Int×Int),ms.Perm ns/\(ms.map (·.1)).Pairwise (· <= ·):=by
 refine ⟨ns.mergeSort (λa b=>decide (a.1<=b.1)),List.mergeSort_perm _ _,?_⟩
 rw [List.pairwise_map]
 exact (List.pairwise_mergeSort (λa b c h1 h2=>by simp at *;omega) (λa b=>by simp;omega) ns).imp λh=>by simpa using h
theorem qW.good {H:Hp}:∀{sk:List (Int×Addr)}{wr:List (Int×T3)},qW H sk wr->(∀z∈sk,∃t,H z.2=some (zj t)/\good t=true)->∀q∈wr,good q.2=true
 | _,_,.nil,_,q,hq=>by cases hq
 | z::r,x::t,.cons ⟨_,h⟩ tl,g,q,hq=>by
  rcases List.mem_cons.mp hq with e | e
  ·subst e
   obtain ⟨u,hu,gu⟩:=g z (aC ..)
   rw [h] at hu
   have:zj q.2=zj u:=aR hu
   have e1:q.2.1=u.1:=by injection this with this;injection this with a b;exact V.int.inj a
   have e2:q.2.2.1=u.2.1:=by injection this with this;injection this with a b;injection b with b c;exact V.int.inj b
   have e3:q.2.2.2=u.2.2:=by injection this with this;injection this with a b;injection b with b c;injection c with c d;exact V.int.inj c
   rw [show q.2=u from Prod.ext e1 (Prod.ext e2 e3)]
   exact gu
  ·exact qW.good tl (λz hz=>g z (az _ hz)) q e
theorem JJ {wr:List (Int×T3)}{ts:List T3}(h1:∀q∈wr,good q.2=true) (h2:ts.all good=true) (h3:1<=ts.length) (y:Int):good (zR wr ts y)=true:=by
 unfold zR
 cases e:wr.find? λq=>decide (q.1=y) with
 | some q=>exact h1 q (List.mem_of_find?_eq_some e)
 | none =>
  have m0:=cS y (show (ts.length:Int)≠0 by omega)
  have m1:=cp y (show (0:Int)<ts.length by omega)
  have hi:(y % (ts.length:Int)).toNat<ts.length:=()
  show good (ts.getD (y % (ts.length:Int)).toNat (0,0,0))=true
  rw [ak,aa hi]
  exact List.all_eq_true.mp h2 _ (bH hi)
theorem uk (ns:List (Int×Int)) (gd:List Int) (wr:List (Int×T3)) (ts:List T3) (m fst:Int):∀i,0<=zD ns gd wr ts m fst i
 | 0=>cV _
 | i+1=>by
  have:=uk ns gd wr ts m fst i
  show 0<=zD ns gd wr ts m fst i+(if xF ns gd wr ts m (fst+(i:Int)) > - zD ns gd wr ts m fst i then xF ns gd wr ts m (fst+(i:Int)) else-zD ns gd wr ts m fst i)
  split <;> omega
def yq:Int->List Q4->List Q4
 | _,[]=>[]
 | b,q::r=>(q.1,q.2.1,q.2.2.2-min b q.2.2.2,min b q.2.2.2)::(if q.2.2.2=0 then [] else yq (min b q.2.2.2) r)
def ZM (rows:List Q4):List Q4:=yq (rows.headD (0,0,0,0)).2.2.2 rows
theorem Xf {b:Int}{q:Q4}{r:List Q4}:yq b (q::r)≠[]:=by
 unfold yq
 exact dH _ _
def Hd (rows:List Q4) (t:Int):Prop:=∃q∈rows,q.1=t/\q.2.2.1≠0
def Vj (C CN CP CY:Addr):Sp:=λvs H Q E=>∃(p:Addr) (g:IceG) (l n y:Int) (sk:List (Int×Addr)) (wr:List (Int×T3)),vs=[.ref p,.int l,.int n,.int y]/\IceAt C H p g/\g.lds.length=g.slopes.length/\g.kvs=sk.map kvA/\qW H sk wr/\1<=g.rows.length/\g.rows.length<=1000 /\
 (l<0\/(g.slopes.length:Int)<=l->E (.ref CN) none H)/\(0<=l->l<(g.slopes.length:Int)->n<0\/((g.slopes.getD l.toNat []).length:Int)<=n->E (.ref CP) none H) /\
 (0<=l->l<(g.slopes.length:Int)->0<=n->n<((g.slopes.getD l.toNat []).length:Int)->∃ns ms,XG g l ns/\(∀q∈ns,0<=q.1)/\(g.slopes.getD l.toNat []).length<=100/\ms.Perm ns/\(ms.map (·.1)).Pairwise (· <= ·)/\(∀H',jn H H'->y<0\/10 ^ 40<y->E (.ref CY) none H') /\
  (0<=y->y<=10 ^ 40->∀o out H',H o=none->H' o=some (.lst out)->xM H' out (ZM ((jS ms (g.slopes.getD l.toNat []) wr g.rows (y+jq ns y-n)).drop (y-js 0 0 ms (y+jq ns y-n)).toNat))->jn H H'->Q (.ref o) H'))
theorem zI:FnScope ["ice","lane","place","year","onward","beneath","rows","when","where","moved","lying"] ["ice","lane","place","year"] (j8 Y2):=by walk_at "s"
theorem Uh {f C CN CP CY:Addr}{fd:FuncData}(nb:Nb2 mg) (c_parted:CalX P w K mg base 5 "parted" ["ice","lane","place","year"] (JN C CN CP CY))
  (F:Fun K "way" "way" Y2 f fd):FnOk P w K mg base (CX1 P w) 6 f fd ["ice","lane","place","year"] (Vj C CN CP CY):=by
 refine Fun.okX F zI (λvs H Q E h=>?_) (λcdv A outer s H vs Q E hr h=>?_)
 ·obtain ⟨p,g,l,n,y,sk,wr,rfl,_⟩:=h
  rfl
 ·obtain ⟨p,g,l,n,y,sk,wr,rfl,I,hll,ek,hw,hr1,hr2,kl,kp,k⟩:=h
  refine ⟨_,(j4 (ju 4 zI.nd (jp (qo K) (xw c_parted (hr.mono ⋯) qt rfl (j0 (pv 0) (j0 (pv 1) (j0 (pv 2) (j0 (pv 3) j2))))) j6 (λ_ _=>rfl)))
   (j4 (ju 5 zI.nd (jp (qo K) (jp (jb K) (pv 4) j6 (λ_ _=>rfl)) j6 (λ_ _=>rfl)))
   (j4 (ju 6 zI.nd (jM j2))
   (j4 (Y1 (xh bt rfl (jW K (pv 4)) (qI (n:=4) K rfl (jr (jc (i:=7) zI.nd rfl (aS rfl)) (jr (jc (i:=8) zI.nd rfl (aS rfl)) (jr (jc (i:=9) zI.nd rfl (aS rfl)) (jr (jc (i:=10) zI.nd rfl (aS rfl)) qN))))) (j4 (ju 5 zI.nd (jg (yj rfl) rfl nb.b_min oo (j0 (pv 5) (j0 (pv 10) j2))))
   (j4 (jU (zW K bC bz bA qv (pv 6) (j0 (qZ (j0 (pv 7) (j0 (pv 8) (j0 (jo xk (pv 10) (pv 5)) (j0 (pv 5) j2))))) j2)))
   (j9 (qj (jI wg (pv 10) j6 (qe _)) (j9 JP) jD))))))
   (j9 (jj (pv 6))))))),?_⟩
  walk_at "r"
  refine ⟨p,g,l,n,y,sk,wr,rfl,I,hll,ek,hw,hr1,hr2,kl,kp,λl0 l1 n0 n1=>?_⟩
  obtain ⟨ns,ms,hL,hp0,g100,hp,hs,ky,k⟩:=k l0 l1 n0 n1
  refine ⟨ns,ms,hL,hp0,g100,hp,hs,ky,λy0 y1 t a1 a2 out H1 ht ha1 ha2 ht1 ha11 ha21 r1 s1=>?_⟩
  have hpos:∀q∈ns,0<=q.1/\0<=q.2:=λq hq=>⟨hp0 q hq,(hL.2.2.2.2.2 q hq).1⟩
  have nd:(ns.map (·.1)).Nodup:=hL.2.2.2.1
  have e0:y+jq ns y-(y+jq ns y-n)=n:=()
  have onm:=(zC hp hs nd hpos (y+jq ns y-n) (g.slopes.getD l.toNat []).length y y0).mp (by rw [e0];exact ⟨n0,n1⟩)
  have hlo:=xL ms (g.slopes.getD l.toNat []) wr g.rows (y+jq ns y-n)
  have spl:=QN hp hs nd hpos (y+jq ns y-n) (g.slopes.getD l.toNat []).length ()
  have k:=k y0 y1
  have r2:xM H1 (out.drop (y-js 0 0 ms (y+jq ns y-n)).toNat) ((jS ms (g.slopes.getD l.toNat []) wr g.rows (y+jq ns y-n)).drop (y-js 0 0 ms (y+jq ns y-n)).toNat):=xM.drop _ r1
  generalize y+jq ns y-n=m at *
  generalize hkk:(y-js 0 0 ms m).toNat=kk at *
  generalize hrw:(jS ms (g.slopes.getD l.toNat []) wr g.rows m).drop kk=rows at *
  have hrl:0<rows.length:=by rw [<- hrw,d0];omega
  have hr100:rows.length<=100:=by rw [<- hrw,d0];omega
  obtain ⟨q0,hq0⟩:∃q,rows[0]? = some q:=⟨_,aa hrl⟩
  generalize hov:out.drop kk=ov at *
  have hol:ov.length=rows.length:=aP r2
  obtain ⟨v0,hv0⟩:∃v,ov[0]? = some v:=⟨_,aa ()⟩
  obtain ⟨q0',hq0',b0,rfl,hb0⟩:=Paired.get r2 hv0
  rw [hq0] at hq0'
  cases hq0'
  have hb0:H1 b0=some (.tup [.int q0.1,.int q0.2.1,.int q0.2.2.1,.int q0.2.2.2]):=hb0
  have hw0:ZM rows=yq q0.2.2.2 rows:=by
   unfold ZM
   rw [List.headD_eq_head?_getD,List.head?_eq_getElem?,hq0]
   rfl
  rw [hw0] at k
  walk_at "r"
  refine ⟨_,_,_,_,rfl,rfl,SqL.of ha21,qx ⋯ (v:=V.ref b0) hv0,?_⟩
  walk_at "r"
  refine ⟨aJ _,λrw_ H5 hrw_ hrw5 s5=>?_⟩
  have rw0:H rw_=none:=s1.free hrw_
  walk_at "r"
  refine ⟨⟨_,SqL.of (s5 _ _ ha21)⟩,?_⟩
  refine vg (K:=K) (a:=a2) (xs:=ov) (λi σ H6=>∃(x8 x9 x10 x11:Option V) (b:Int) (X:List Q4) (out6:List V),σ=[some (.ref p),some (.int l),some (.int n),some (.int y),some (.ref a2),some (.int b),some (.ref rw_),x8,x9,x10,x11]/\H6 rw_=some (.lst out6)/\xM H6 out6 X/\X.length=i/\yq q0.2.2.2 rows=X++yq b (rows.drop i)/\Ext rw_ H1 H6) ?_ ?_ ?_ ?_
  ·exact ⟨_,_,_,_,_,[],[],rfl,hrw5,.nil,rfl,rfl,λc o hc _=>s5 _ _ hc⟩
  ·rintro i σ H6 hi ⟨x8,x9,x10,x11,b,X,out6,rfl,h6,r6,hX,eX,e6⟩
   exact SqL.of (e6 _ _ ha21 (j1 ha21 hrw_))
  ·rintro i v σ H6 hv ⟨x8,x9,x10,x11,b,X,out6,rfl,h6,r6,hX,eX,e6⟩
   obtain ⟨q,hq,bq,rfl,hbq⟩:=Paired.get r2 hv
   have hi:i<rows.length:=(List.getElem?_eq_some_iff.mp hq).1
   have hbq:H1 bq=some (.tup [.int q.1,.int q.2.1,.int q.2.2.1,.int q.2.2.2]):=hbq
   have s6:jn H1 H6:=λc o hc=>e6 c o hc (j1 hc hrw_)
   have hol6:out6.length=X.length:=aP r6
   have ed:rows.drop i=q::rows.drop (i+1):=by
    have:=(List.getElem?_eq_some_iff.mp hq).2
    rw [<- this]
    exact bT hi
   rw [ed] at eX
   have eX:yq q0.2.2.2 rows=X++((q.1,q.2.1,q.2.2.2-min b q.2.2.2,min b q.2.2.2)::(if q.2.2.2=0 then [] else yq (min b q.2.2.2) (rows.drop (i+1)))):=eX
   walk_at "r"
   refine ⟨bq,_,rfl,SqT.of (s6 _ _ hbq),rfl,?_⟩
   refine ⟨_,_,rfl,_,_,rfl,_,_,rfl,_,_,rfl,rfl,?_⟩
   walk_at "r"
   refine ⟨_,_,rfl,?_⟩
   walk_at "r"
   rw [show (if q.2.2.2<b then q.2.2.2 else b)=min b q.2.2.2 by split <;> omega]
   refine ⟨.inl ⟨rfl,_,SqL.of h6⟩,?_⟩
   walk_at "r"
   refine ⟨by show 4<=sizeLine;decide,λtq H7 htq htq7 s7=>?_⟩
   refine ⟨_,_,_,rfl,rfl,s7 _ _ h6,je (),?_⟩
   have tqr:tq≠rw_:=(j1 h6 htq).symm
   have e8:Ext rw_ H1 (upd H7 rw_ (.lst (out6++[.ref tq]))):=λc o hc n=>by rw [j5 n];exact s7 _ _ (e6 c o hc n)
   have r8:xM (upd H7 rw_ (.lst (out6++[.ref tq]))) (out6++[.ref tq]) (X++[(q.1,q.2.1,q.2.2.2-min b q.2.2.2,min b q.2.2.2)]):=cu (r6.keep λa xs q=>by rw [j5 (jh (s7 _ _ q) (s7 _ _ h6) (by walk_at "z"))];exact s7 _ _ q) ⟨tq,rfl,by rw [j5 tqr];exact htq7⟩
   walk_at "r"
   refine qS (λz=>?_) (λz=>?_)
   ·rw [if_pos (V.int.inj z)] at eX
    walk_at "r"
    exact k rw_ _ _ rw0 j7 (by rw [eX];exact r8) (s1.trans λc o hc=>e8 c o hc (j1 hc hrw_))
   ·rw [if_neg λe=>z (congrArg V.int e)] at eX
    walk_at "r"
    exact ⟨_,_,_,_,min b q.2.2.2,X++[(q.1,q.2.1,q.2.2.2-min b q.2.2.2,min b q.2.2.2)],_,rfl,j7,r8,by rw [av,hX];rfl,by rw [eX,dv];rfl,e8⟩
  ·rintro σ H6 ⟨x8,x9,x10,x11,b,X,out6,rfl,h6,r6,hX,eX,e6⟩
   rw [eR ()] at eX
   have eX:yq q0.2.2.2 rows=X:=by rw [eX];exact br _
   rw [<- eX] at r6
   walk_at "r"
   exact k rw_ out6 H6 rw0 h6 r6 (s1.trans λc o hc=>e6 c o hc (j1 hc hrw_))
inductive ResD where
 | left (y n:Int)
 | off (y:Int)
def V3:ResD->List V
 | .left y n=>[.str "left",.int y,.int n]
 | .off y=>[.str "off",.int y]
def JU (W:List Q4):ResD :=
 if (W.getLastD (0,0,0,0)).2.2.1+(W.getLastD (0,0,0,0)).2.2.2=0 then .left (W.getLastD (0,0,0,0)).1 (W.getLastD (0,0,0,0)).2.1 else .off ((W.getLastD (0,0,0,0)).1+1)
def QC (C CN CP CY:Addr):Sp:=λvs H Q E=>∃(p:Addr) (g:IceG) (l n y:Int) (sk:List (Int×Addr)) (wr:List (Int×T3)),vs=[.ref p,.int l,.int n,.int y]/\IceAt C H p g/\g.lds.length=g.slopes.length/\g.kvs=sk.map kvA/\qW H sk wr/\1<=g.rows.length/\g.rows.length<=1000 /\
 (l<0\/(g.slopes.length:Int)<=l->E (.ref CN) none H)/\(0<=l->l<(g.slopes.length:Int)->n<0\/((g.slopes.getD l.toNat []).length:Int)<=n->E (.ref CP) none H) /\
 (0<=l->l<(g.slopes.length:Int)->0<=n->n<((g.slopes.getD l.toNat []).length:Int)->∃ns ms,XG g l ns/\(∀q∈ns,0<=q.1)/\(g.slopes.getD l.toNat []).length<=100/\ms.Perm ns/\(ms.map (·.1)).Pairwise (· <= ·)/\(∀H',jn H H'->y<0\/10 ^ 40<y->E (.ref CY) none H') /\
  (0<=y->y<=10 ^ 40->∀W,W=ZM ((jS ms (g.slopes.getD l.toNat []) wr g.rows (y+jq ns y-n)).drop (y-js 0 0 ms (y+jq ns y-n)).toNat)->W≠[]/\∀o H',H o=none->H' o=some (.tup (V3 (JU W)))->jn H H'->Q (.ref o) H'))
theorem vn:FnScope ["ice","lane","place","year","when","where","above","beneath"] ["ice","lane","place","year"] (j8 QF):=by walk_at "s"
theorem YD {f C CN CP CY:Addr}{fd:FuncData}(c_way:CalX P w K mg base 6 "way" ["ice","lane","place","year"] (Vj C CN CP CY))
  (F:Fun K "rest" "rest" QF f fd):FnOk P w K mg base (CX1 P w) 7 f fd ["ice","lane","place","year"] (QC C CN CP CY):=by
 refine Fun.okX F vn (λvs H Q E h=>?_) (λcdv A outer s H vs Q E hr h=>?_)
 ·obtain ⟨p,g,l,n,y,sk,wr,rfl,_⟩:=h
  rfl
 ·obtain ⟨p,g,l,n,y,sk,wr,rfl,I,hll,ek,hw,hr1,hr2,kl,kp,k⟩:=h
  refine ⟨_,(j4 (xR (jp (jb K) (xw c_way (hr.mono ⋯) qt rfl (j0 (pv 0) (j0 (pv 1) (j0 (pv 2) (j0 (pv 3) j2))))) (uK yL j6) (λ_ _=>rfl)) (qI (n:=4) K rfl (jr (jc (i:=4) vn.nd rfl (aS rfl)) (jr (jc (i:=5) vn.nd rfl (aS rfl)) (jr (jc (i:=6) vn.nd rfl (aS rfl)) (jr (jc (i:=7) vn.nd rfl (aS rfl)) qN))))))
   (j4 (qj (jI wg (jo jJ (pv 6) (pv 7)) j6 (qe _)) (j9 (jj (qZ (j0 jw (j0 (pv 4) (j0 (pv 5) j2)))))) jD)
   (j9 (jj (qZ (j0 jw (j0 (jo jJ (pv 4) j6) j2))))))),?_⟩
  walk_at "r"
  refine ⟨p,g,l,n,y,sk,wr,rfl,I,hll,ek,hw,hr1,hr2,kl,kp,λl0 l1 n0 n1=>?_⟩
  obtain ⟨ns,ms,hL,hp0,g100,hp,hs,ky,k⟩:=k l0 l1 n0 n1
  refine ⟨ns,ms,hL,hp0,g100,hp,hs,ky,λy0 y1 o out H1 ho ho1 r1 s1=>?_⟩
  obtain ⟨hn,k⟩:=k y0 y1 _ rfl
  generalize ZM ((jS ms (g.slopes.getD l.toNat []) wr g.rows (y+jq ns y-n)).drop (y-js 0 0 ms (y+jq ns y-n)).toNat)=W at *
  have hol:out.length=W.length:=aP r1
  have hn0:out≠[]:=λz=>hn (List.eq_nil_of_length_eq_zero (by rw [<- hol,z];rfl))
  obtain ⟨ini,vl,eov⟩:∃ini vl,out=ini++[vl]:=⟨_,_,(List.dropLast_concat_getLast hn0).symm⟩
  have hvl:out[ini.length]? = some vl:=by rw [eov,bM (ao _),Nat.sub_self];rfl
  obtain ⟨ql,hql,bl,rfl,hbl⟩:=Paired.get r1 hvl
  have elast:W.getLastD (0,0,0,0)=ql:=by
   have e1:W.length=ini.length+1:=by rw [<- hol,eov,av];rfl
   rw [List.getLastD_eq_getLast?,List.getLast?_eq_getElem?,e1,Nat.add_sub_cancel,hql]
   rfl
  have hbl:H1 bl=some (.tup [.int ql.1,.int ql.2.1,.int ql.2.2.1,.int ql.2.2.2]):=hbl
  unfold JU at k
  rw [elast] at k
  rw [eov] at ho1
  walk_at "r"
  refine ⟨_,_,_,_,rfl,rfl,SqL.of ho1,Jl _ _,?_⟩
  refine ⟨bl,_,rfl,SqT.of hbl,rfl,?_⟩
  refine ⟨_,_,rfl,_,_,rfl,_,_,rfl,_,_,rfl,rfl,?_⟩
  walk_at "r"
  refine qS (λz=>?_) (λz=>?_)
  ·rw [if_pos (V.int.inj z)] at k
   walk_at "r"
   refine ⟨by show 3<=sizeLine;decide,λt3 H3 ht3 ht33 s3=>?_⟩
   exact k t3 H3 (s1.free ht3) ht33 (s1.trans s3)
  ·rw [if_neg λe=>z (congrArg V.int e)] at k
   walk_at "r"
   refine ⟨by show 2<=sizeLine;decide,λt3 H3 ht3 ht33 s3=>?_⟩
   exact k t3 H3 (s1.free ht3) ht33 (s1.trans s3)
theorem ZP (p q sg gl ll q2:Addr):qf (scK p q sg gl ll) (.inr "rows") (.ref q2)=scK p q2 sg gl ll:=by
 unfold qf scK
 rw [if_pos (by simp [pf])]
 simp only [aH,dG]
 rw [if_neg (show ¬(aI (ag "reaches"):Key)=aI (ag "rows") by decide +kernel),if_pos trivial,if_neg (show ¬(aI (ag "single"):Key)=aI (ag "rows") by decide +kernel),if_neg (show ¬(aI (ag "grounds"):Key)=aI (ag "rows") by decide +kernel),if_neg (show ¬(aI (ag "leaps"):Key)=aI (ag "rows") by decide +kernel)]
theorem QH (p q sg gl ll s2:Addr):qf (scK p q sg gl ll) (.inr "single") (.ref s2)=scK p q s2 gl ll:=by
 unfold qf scK
 rw [if_pos (by simp [pf])]
 simp only [aH,dG]
 rw [if_neg (show ¬(aI (ag "reaches"):Key)=aI (ag "single") by decide +kernel),if_neg (show ¬(aI (ag "rows"):Key)=aI (ag "single") by decide +kernel),if_pos trivial,if_neg (show ¬(aI (ag "grounds"):Key)=aI (ag "single") by decide +kernel),if_neg (show ¬(aI (ag "leaps"):Key)=aI (ag "single") by decide +kernel)]
theorem Xu (p q sg gl ll l2:Addr):qf (scK p q sg gl ll) (.inr "leaps") (.ref l2)=scK p q sg gl l2:=by
 unfold qf scK
 rw [if_pos (by simp [pf])]
 simp only [aH,dG]
 rw [if_neg (show ¬(aI (ag "reaches"):Key)=aI (ag "leaps") by decide +kernel),if_neg (show ¬(aI (ag "rows"):Key)=aI (ag "leaps") by decide +kernel),if_neg (show ¬(aI (ag "single"):Key)=aI (ag "leaps") by decide +kernel),if_neg (show ¬(aI (ag "grounds"):Key)=aI (ag "leaps") by decide +kernel),if_pos trivial]
def Zp:Sp:=λvs H Q _=>∃(sd:Addr) (c:ScN),vs=[.ref sd]/\ScAt H sd c/\c.lds.length<=100 /\
 ∀(s2 q2 g2 l2:Addr) (as:List Addr) (H':Hp),H s2=none->H q2=none->H g2=none->H l2=none->(∀a∈as,H a=none)->as.Nodup->g2∉as->q2≠l2->as.length=c.lds.length->H' s2=some (.dK (scK c.p q2 g2 c.gl l2))->H' q2=some (.lst c.ys)->H' g2=some (.dK (c.sk.map kvA))->H' l2=some (.lst (as.map V.ref))->(∀(i:Nat) a,as[i]? = some a->∃x,c.lds[i]? = some x/\H' a=some (.dK (x.2.map kvI)))->s2∉as->s2≠g2->jn H H'->Q (.ref s2) H'
theorem xV:FnScope ["_law_scene_here","_law_other"] ["_law_scene_here"] (j8 qM):=by walk_at "s"
theorem YG {f:Addr}{fd:FuncData}(nb:Nb2 mg) (b_dict:mg "dict" = none) (F:Fun K "_law_scene_copy" "_law_scene_copy" qM f fd):FnOk P w K mg base CX0 1 f fd ["_law_scene_here"] Zp:=by
 refine F.ok xV (λvs H Q E h=>?_) (λcdv A outer s H vs Q E hr h=>?_)
 ·obtain ⟨sd,c,rfl,_⟩:=h
  rfl
 ·obtain ⟨sd,c,rfl,S,h100,k⟩:=h
  have dg:∀{H':Hp} {a:Addr} (p q sg gl ll:Addr),H' a=some (.dK (scK p q sg gl ll))->qP H' a (.str "rows") (some (.ref q))/\qP H' a (.str "single") (some (.ref sg))/\qP H' a (.str "leaps") (some (.ref ll)):=λp q sg gl ll h=>⟨by rw [<- gI p q sg gl ll];exact qP.k (k:=.inr "rows") h,by rw [<- zq p q sg gl ll];exact qP.k (k:=.inr "single") h,by rw [<- uC p q sg gl ll];exact qP.k (k:=.inr "leaps") h⟩
  refine ⟨_,(j4 (ju 1 xV.nd (jT (yW K rfl) rfl b_dict dh (j0 (pv 0) j2)))
   (j4 (xv (jK hr) (pv 1) jw (jT (qp K) rfl nb.b_list bR (j0 (jC (jK hr) (pv 0) jw (λ_ _=>rfl)) j2)) rfl)
   (j4 (xv (jK hr) (pv 1) jw (jT (yW K rfl) rfl b_dict dh (j0 (jC (jK hr) (pv 0) jw (λ_ _=>rfl)) j2)) rfl)
   (j4 (xv (jK hr) (pv 1) jw (jX (osc:=(j8 qM)) (ON:=["_law_scene_here","_law_other"]) (N:=["_law_leaps"]) (own:=1) (caps:=[]) ⟨rfl,∅,∅,∅,rfl,∅⟩ rfl rfl rfl (jW K (jC (jK hr) (pv 0) jw (λ_ _=>rfl))) (λ_ _ _ _ _=>(jc (i:=0) (show bj (["_law_leaps"]:List Str) by decide +kernel) rfl (aS rfl))) (λ_ _ _ _ _=>jF) (λ_ _ _ _ _=>(jT (yW K rfl) rfl b_dict dh (j0 (pv 0) j2)))) rfl)
   (j9 (jj (pv 1))))))),?_⟩
  walk_at "r"
  refine ⟨sd,_,rfl,.inl S.sd,λs2 H1 hs2 hs21 s1=>?_⟩
  walk_at "r"
  refine ⟨sd,_,rfl,(dg _ _ _ _ _ (s1 _ _ S.sd)).1,?_⟩
  walk_at "r"
  refine ⟨c.q,_,rfl,.inl (SqL.of (s1 _ _ S.q)),λq2 H2 hq2 hq22 t2=>?_⟩
  walk_at "r"
  have s12:=s1.trans t2
  refine ⟨s2,_,rfl,vx.k (k:=.inr "rows") (t2 _ _ hs21) (by show 5<sizeLine;decide),?_⟩
  rw [ZP]
  have q2s:q2≠s2:=(j1 hs21 hq2).symm
  have h2:(upd H2 s2 (.dK (scK c.p q2 c.sg c.gl c.ll))) s2=some (.dK (scK c.p q2 c.sg c.gl c.ll)):=j7
  have hq2':(upd H2 s2 (.dK (scK c.p q2 c.sg c.gl c.ll))) q2=some (.lst c.ys):=by rw [j5 q2s];exact hq22
  have o2:jn H (upd H2 s2 (.dK (scK c.p q2 c.sg c.gl c.ll))):=λa o h=>by rw [j5 (j1 h hs2)];exact s12 _ _ h
  generalize upd H2 s2 (.dK (scK c.p q2 c.sg c.gl c.ll))=H3 at *
  have hq0:H q2=none:=s1.free hq2
  walk_at "r"
  refine ⟨sd,_,rfl,(dg _ _ _ _ _ (o2 _ _ S.sd)).2.1,?_⟩
  walk_at "r"
  refine ⟨c.sg,_,rfl,(S.same o2).sg,λg2 H4 hg2 hg24 s4=>?_⟩
  walk_at "r"
  refine ⟨s2,_,rfl,vx.k (k:=.inr "single") (s4 _ _ h2) (by show 5<sizeLine;decide),?_⟩
  rw [QH]
  have g2s:g2≠s2:=(j1 h2 hg2).symm
  have g20:H g2=none:=o2.free hg2
  have h4:(upd H4 s2 (.dK (scK c.p q2 g2 c.gl c.ll))) s2=some (.dK (scK c.p q2 g2 c.gl c.ll)):=j7
  have hq4:(upd H4 s2 (.dK (scK c.p q2 g2 c.gl c.ll))) q2=some (.lst c.ys):=by rw [j5 q2s];exact s4 _ _ hq2'
  have hg4:(upd H4 s2 (.dK (scK c.p q2 g2 c.gl c.ll))) g2=some (.dK (c.sk.map kvA)):=by rw [j5 g2s];exact hg24
  have o4:jn H (upd H4 s2 (.dK (scK c.p q2 g2 c.gl c.ll))):=λa o h=>by rw [j5 (j1 h hs2)];exact s4 _ _ (o2 _ _ h)
  clear hq2' h2 hg24
  generalize upd H4 s2 (.dK (scK c.p q2 g2 c.gl c.ll))=H5 at *
  have S5:=S.same o4
  walk_at "r"
  refine ⟨sd,_,rfl,(dg _ _ _ _ _ S5.sd).2.2,?_⟩
  walk_at "r"
  refine ⟨⟨_,SqL.of S5.ll⟩,λl2 hl2=>?_⟩
  refine qg (K:=K) (a:=c.ll) (xs:=c.lds.map λx=>V.ref x.1) (acc:=l2) (λi σ H6=>∃(x:Option V) (as:List Addr),σ=[x]/\H6 l2=some (.lst (as.map V.ref))/\as.length=i/\as.Nodup/\(∀a∈as,H5 a=none/\a≠l2)/\(∀(j:Nat) a,as[j]? = some a->∃x,c.lds[j]? = some x/\H6 a=some (.dK (x.2.map kvI)))/\Ext l2 H5 H6) ?_ ?_ ?_ ?_
  ·exact ⟨none,[],rfl,j7,rfl,.nil,(λa h=>by cases h),(λj a h=>by cases h),Ext.put⟩
  ·rintro i σ H6 hi ⟨x,as,rfl,h6,hl,nd,hf,hv,e6⟩
   exact SqL.of (e6 _ _ S5.ll (j1 S5.ll hl2))
  ·rintro i v σ H6 hvi ⟨x,as,rfl,h6,hl,nd,hf,hv,e6⟩
   rw [ar] at hvi
   obtain ⟨y,hy,rfl⟩:=Option.map_eq_some_iff.mp hvi
   have hi:=(List.getElem?_eq_some_iff.mp hy).1
   have s6:jn H5 H6:=λc o hc=>e6 c o hc (j1 hc hl2)
   walk_at "r"
   refine ⟨y.1,_,rfl,(S5.same s6).ld y (au hy),λd H7 hd hd7 s7=>?_⟩
   have dl:d≠l2:=(j1 h6 hd).symm
   refine ⟨_,s7 _ _ h6,by rw [af];exact je (),_,as++[d],rfl,(by rw [j7,aE];rfl),(by rw [av,hl];rfl),vo nd λz=>?_,λa ha=>?_,λj a ha=>?_,λc o hc n=>by rw [j5 n];exact s7 _ _ (e6 c o hc n)⟩
   ·obtain ⟨j,hj,ej⟩:=List.mem_iff_getElem.mp z
    obtain ⟨_,_,h⟩:=hv j d (by rw [aa hj,ej])
    rw [hd] at h
    cases h
   ·rcases List.mem_append.mp ha with z | z
    ·exact hf a z
    ·rw [List.mem_singleton.mp z]
     exact ⟨s6.free hd,dl⟩
   ·by_cases hj:j<as.length
    ·rw [cg hj] at ha
     obtain ⟨x,h1,h2⟩:=hv j a ha
     have hm:=hf a (au ha)
     exact ⟨x,h1,by rw [j5 hm.2];exact s7 _ _ h2⟩
    ·rw [bM ()] at ha
     have hj0:j-as.length=0:=by
      have:=(List.getElem?_eq_some_iff.mp ha).1
      rw [aU] at this
      omega
     rw [hj0] at ha
     cases ha
     refine ⟨y,by rw [show j=i by omega];exact hy,?_⟩
     rw [j5 dl]
     exact hd7
  rintro σ H6 ⟨x,as,rfl,h6,hl,nd,hf,hv,e6⟩
  rw [af] at hl
  have s6:jn H5 H6:=λc o hc=>e6 c o hc (j1 hc hl2)
  walk_at "r"
  refine ⟨s2,_,rfl,vx.k (k:=.inr "leaps") (s6 _ _ h4) (by show 5<sizeLine;decide),?_⟩
  rw [Xu]
  have nas:∀{a:Addr} {o:HO},H5 a=some o->a∉as:=λh z=>by have:=(hf _ z).1;rw [h] at this;cases this
  have l2s:l2≠s2:=(j1 h4 hl2).symm
  walk_at "r"
  refine k s2 q2 g2 l2 as _ hs2 hq0 g20 (o4.free hl2) (λa ha=>o4.free (hf a ha).1) nd (nas hg4) (j1 hq4 hl2) hl j7 ?_ ?_ ?_ (λi a ha=>?_) (nas h4) g2s.symm λa o h=>?_
  ·rw [j5 q2s];exact s6 _ _ hq4
  ·rw [j5 g2s];exact s6 _ _ hg4
  ·rw [j5 l2s];exact h6
  ·obtain ⟨x,h1,h2⟩:=hv i a ha
   refine ⟨x,h1,?_⟩
   have as2:a≠s2:=λz=>by subst z;exact nas h4 (au ha)
   rw [j5 as2]
   exact h2
  ·rw [j5 (j1 h hs2)]
   exact s6 _ _ (o4 _ _ h)
def y6 (t u:T3):Prop:=u.1=t.1/\t.2.1<=u.2.1/\u.2.2<=t.2.2
theorem y6.refl (t:T3):y6 t t:=⟨rfl,cV _,cV _⟩
theorem y6.up {t u:T3}(h:y6 t u) (x:Int):chg t x<=chg u x:=by
 obtain ⟨h1,h2,h3⟩:=h
 unfold chg
 rw [h1]
 split <;> omega
theorem wz:∀{wr:List (Int×T3)}{k:Int}{u:T3},k∈wr.map (·.1)->∀z:Int,((wr.map λq=>if q.1=k then (q.1,u) else q).find? λq=>decide (q.1=z))=if z=k then some (k,u) else wr.find? λq=>decide (q.1=z)
 | [],k,u,h,z=>by cases h
 | q::r,k,u,h,z=>by
  rw [aH]
  by_cases e:q.1=k
  ·rw [if_pos e]
   by_cases ez:z=k
   ·rw [if_pos ez,cc (by rw [decide_eq_true (show (q.1,u).1=z from e.trans ez.symm)]),e]
   ·rw [if_neg ez,bS (by rw [decide_eq_false (λw=>ez (w.symm.trans e))];exact aq),bS (by rw [decide_eq_false (λw=>ez (w.symm.trans e))];exact aq)]
    by_cases hr:k∈r.map (·.1)
    ·rw [wz hr z,if_neg ez]
    ·congr 1
     refine (cD λx hx=>if_neg λw=>hr (List.mem_map.mpr ⟨x,hx,w⟩)).trans (List.map_id' r)
  ·rw [if_neg e]
   have hr:k∈r.map (·.1):=by
    rcases List.mem_cons.mp h with w | w
    ·exact absurd w.symm e
    ·exact w
   by_cases ez:q.1=z
   ·rw [cc (by rw [decide_eq_true ez]),cc (by rw [decide_eq_true ez]),if_neg (λw=>e (ez.trans w))]
   ·rw [bS (by rw [decide_eq_false ez];exact aq),bS (by rw [decide_eq_false ez];exact aq),wz hr z]
theorem uB {α:Type}{l:List (Int×α)}{y:Int}{a:α}(h:y∈l.map (·.1)):qC l y a=l.map λz=>if z.1=y then (z.1,a) else z:=by
 unfold qC
 rw [if_pos]
 rw [List.any_eq_true]
 obtain ⟨z,hz,e⟩:=List.mem_map.mp h
 exact ⟨z,hz,decide_eq_true e⟩
theorem QV:∀{wr:List (Int×T3)}{i:Nat}{q:Int×T3},(wr.map (·.1)).Nodup->wr[i]? = some q->(wr.find? λx=>decide (x.1=q.1))=some q
 | [],i,q,_,h=>by cases h
 | x::r,0,q,nd,h=>by
  cases h
  rw [cc (by exact decide_eq_true rfl)]
 | x::r,i+1,q,nd,h=>by
  obtain ⟨n1,n2⟩:=List.nodup_cons.mp nd
  have h:r[i]? = some q:=h
  have ne:¬x.1=q.1:=λw=>n1 (by rw [show (λx:Int×T3=>x.1) x=q.1 from w];exact b9 (au h))
  rw [bS (by rw [decide_eq_false ne];exact aq)]
  exact QV n2 h
theorem XZ {wr:List (Int×T3)}{ts:List T3}{i:Nat}{q:Int×T3}{u:T3}(nd:(wr.map (·.1)).Nodup) (h:wr[i]? = some q) (r:y6 q.2 u) (z:Int):y6 (zR wr ts z) (zR (qC wr q.1 u) ts z):=by
 have hin:q.1∈wr.map (·.1):=b9 (au h)
 unfold zR
 rw [uB hin,wz hin]
 by_cases e:z=q.1
 ·rw [if_pos e,e,QV nd h]
  exact r
 ·rw [if_neg e]
  cases wr.find? λq=>decide (q.1=z) with
  | none=>exact y6.refl _
  | some x=>exact y6.refl _
theorem Yd {wr:List (Int×T3)}{ts:List T3}{i:Nat}{t u:T3}(h:ts[i]? = some t) (r:y6 t u) (z:Int):y6 (zR wr ts z) (zR wr (ts.set i u) z):=by
 unfold zR
 cases wr.find? λq=>decide (q.1=z) with
 | some x=>exact y6.refl _
 | none =>
  rw [cQ]
  generalize (z % (ts.length:Int)).toNat=n
  show y6 (ts.getD n (0,0,0)) ((ts.set i u).getD n (0,0,0))
  rw [ak,ak,dw]
  by_cases e:i=n
  ·subst e
   rw [if_pos rfl,if_pos (List.getElem?_eq_some_iff.mp h).1,h]
   exact r
  ·rw [if_neg e]
   exact y6.refl _
theorem qh.setV {H:Hp}:∀{ys:List V}{ts:List T3}{i:Nat}{a:Addr}{u:T3},qh H ys ts->H a=some (zj u)->qh H (ys.set i (.ref a)) (ts.set i u)
 | _,_,i,a,u,.nil,_=>.nil
 | _,_,0,a,u,.cons _ r,h=>.cons ⟨a,rfl,h⟩ r
 | _,_,i+1,a,u,.cons q r,h=>.cons q (qh.setV r h)
theorem qW.put {H:Hp}:∀{sk:List (Int×Addr)}{wr:List (Int×T3)}{k:Int}{a:Addr}{u:T3},qW H sk wr->H a=some (zj u)->qW H (sk.map λz=>if z.1=k then (z.1,a) else z) (wr.map λz=>if z.1=k then (z.1,u) else z)
 | _,_,k,a,u,.nil,_=>.nil
 | _,_,k,a,u,.cons (a:=z) (b:=q) ⟨e,h⟩ r,ha=>by
  rw [aH,aH]
  refine .cons ?_ (qW.put r ha)
  by_cases w:z.1=k
  ·rw [if_pos w,if_pos (e ▸ w)]
   exact ⟨e,ha⟩
  ·rw [if_neg w,if_neg (λx=>w (e.trans x))]
   exact ⟨e,h⟩
theorem qW.keysE {H:Hp}:∀{sk:List (Int×Addr)}{wr:List (Int×T3)},qW H sk wr->wr.map (·.1)=sk.map (·.1)
 | _,_,.nil=>rfl
 | _,_,.cons ⟨h,_⟩ r=>by rw [aH,aH,qW.keysE r,h]
def Jd:Sp:=λvs H Q _=>∃(L b sd:Addr) (c:ScN) (wr:List (Int×T3)),vs=[.ref b,.ref sd]/\jR L H b/\ScAt H sd c/\ScOk b c/\qW H c.sk wr/\c.ws.length<=6 /\
 ∀(s2:Addr) (c2:ScN) (wr2:List (Int×T3)) (H':Hp),jR L H' b->Ext b H H'->ScAt H' s2 c2->ScOk b c2->qW H' c2.sk wr2->c2.rs=c.rs->c2.ws=c.ws->c2.lds.map (·.2)=c.lds.map (·.2)->(∀z,y6 (zR wr c.ts z) (zR wr2 c2.ts z))->(∀a,c2.D a->H a=none)->Q (.ref s2) H'
theorem jZ:FnScope ["_law_box_here","_law_scene_here","_law_pick","_law_years","_law_row","_law_more","_law_new"] ["_law_box_here","_law_scene_here"] (j8 zL):=by walk_at "s"
theorem Qz {t:T3}(h:good t=true):0<=t.1/\t.1<=100/\0<=t.2.1/\t.2.1<=9/\0<=t.2.2/\t.2.2<=9:=of_decide_eq_true h
theorem XI {f:Addr}{fd:FuncData}(nb:Nb2 mg) (c_law_take:Cal P w K mg base 2 "_law_take" ["_law_box_here","_law_size"] xb) (c_law_scene_copy:Cal P w K mg base 1 "_law_scene_copy" ["_law_scene_here"] Zp)
  (F:Fun K "_law_richer" "_law_richer" zL f fd):FnOk P w K mg base CX0 3 f fd ["_law_box_here","_law_scene_here"] Jd:=by
 refine F.ok jZ (λvs H Q E h=>?_) (λcdv A outer s H vs Q E hr h=>?_)
 ·obtain ⟨L,b,sd,c,wr,rfl,_⟩:=h
  rfl
 ·obtain ⟨L,b,sd,c,wr,rfl,B,S,O,hw,hw6,k⟩:=h
  have wgood:=hw.good S.sk
  have hwk:=hw.keysE
  have hwl:wr.length=c.sk.length:=by rw [<- af (f:=(·.1)),hwk,af]
  have k3:=O.k3
  have t1:=O.t1
  have t2:=O.t2
  have hyl:c.ys.length=c.ts.length:=aP S.r3
  refine ⟨_,(j4 (ju 1 jZ.nd (jd c_law_scene_copy (hr.mono ⋯) rfl (j0 (pv 1) j2)))
   (j4 (ju 2 jZ.nd (jd c_law_take (hr.mono ⋯) rfl (j0 (pv 0) (j0 (jo jJ (jg Z0 rfl nb.b_len aT (j0 (jC (jK hr) (pv 1) jw (λ_ _=>rfl)) j2)) (jg (jf K) rfl nb.b_len aT (j0 (jC (jK hr) (pv 1) jw (λ_ _=>rfl)) j2))) j2))))
   (j4 (ju 3 jZ.nd (jT (Q6 K rfl) rfl nb.b_list bR (j0 (jC (jK hr) (pv 1) jw (λ_ _=>rfl)) j2)))
   (j4 (ju 4 jZ.nd (jp (jb K) (jC (jK hr) (pv 1) jw (λ_ _=>rfl)) (jo xn (pv 2) (jg (jf K) rfl nb.b_len aT (j0 (jC (jK hr) (pv 1) jw (λ_ _=>rfl)) j2))) (λ_ _=>rfl)))
   (vB (qj (jI yw (pv 2) (jg (jf K) rfl nb.b_len aT (j0 (pv 3) j2)) (qe _)) (j9 (ju 4 jZ.nd (jC (jK hr) (jC (jK hr) (pv 1) jw (λ_ _=>rfl)) (jp (jb K) (pv 3) (pv 2) (λ_ _=>rfl)) (λ_ _=>rfl)))) jD)
   (j4 (ju 5 jZ.nd (jd c_law_take (hr.mono ⋯) rfl (j0 (pv 0) (j0 j6 j2))))
   (j4 (ju 6 jZ.nd (qZ (j0 (jp (qo K) (pv 4) j6 (λ_ _=>rfl)) (j0 (jg (yj rfl) rfl nb.b_min oo (j0 j6 (j0 (jo jJ (jp (qo K) (pv 4) j6 (λ_ _=>rfl)) (pv 5)) j2))) (j0 (jg (yg rfl) rfl nb.b_max om (j0 j6 (j0 (jo jJ (jo xk (jp (qo K) (pv 4) j6 (λ_ _=>rfl)) j6) (pv 5)) j2))) j2)))))
   (j4 (qj (jI yw (pv 2) (jg (jf K) rfl nb.b_len aT (j0 (pv 3) j2)) (qe _)) (j9 (xv (jK hr) (jC (jK hr) (pv 1) jw (λ_ _=>rfl)) (jp (jb K) (pv 3) (pv 2) (λ_ _=>rfl)) (pv 6) rfl)) (j9 (xR (pv 6) (wH (jC (jK hr) (pv 1) jw (λ_ _=>rfl)) (jo xn (pv 2) (jg (jf K) rfl nb.b_len aT (j0 (jC (jK hr) (pv 1) jw (λ_ _=>rfl)) j2))) y9))))
   (j9 (jj (pv 1))))))))))),?_⟩
  walk_at "r"
  refine ⟨sd,c,rfl,S,by rw [O.ldl];omega,λs2 q2 g2 l2 as H1 s20 q20 g20 l20 as0 nd ng ql al hs hq hg hl hv ns sg s1=>?_⟩
  have S':=S.same s1
  obtain ⟨lds,elds⟩:∃lds,lds=as.zip (c.lds.map (·.2)):=⟨_,rfl⟩
  have hll:lds.length=c.lds.length:=by rw [elds,List.length_zip,af];omega
  have e1:lds.map (·.1)=as:=by rw [elds,List.map_fst_zip (by rw [af];omega)]
  have e2:lds.map (·.2)=c.lds.map (·.2):=by rw [elds,ip (by rw [af];omega)]
  have e3:lds.map (λx=>V.ref x.1)=as.map V.ref:=by rw [<- e1,bB];rfl
  have hld:∀x∈lds,H1 x.1=some (.dK (x.2.map kvI))/\∃y∈c.lds,y.2=x.2:=λx hx=>by
   obtain ⟨i,hi,ex⟩:=List.mem_iff_getElem.mp hx
   have h1:lds[i]? = some x:=by rw [aa hi,ex]
   have h2:as[i]? = some x.1:=by rw [<- e1,ar,h1];rfl
   obtain ⟨y,hy,h3⟩:=hv i x.1 h2
   have h4:(c.lds.map (·.2))[i]? = some x.2:=by rw [<- e2,ar,h1];rfl
   rw [ar,hy] at h4
   have h4:=aR h4
   exact ⟨by rw [<- h4];exact h3,y,au hy,h4⟩
  have S1:ScAt H1 s2 { c with q:=q2,sg:=g2,ll:=l2,lds:=lds }:=⟨hs,S'.p,S'.rv,hq,S'.r3,S'.gl,S'.gi,(by show H1 l2=some (.lst (lds.map λx=>V.ref x.1));rw [e3];exact hl),.inl hg,S'.sk,λx hx=>.inl (hld x hx).1⟩
  have O1:ScOk b { c with q:=q2,sg:=g2,ll:=l2,lds:=lds }:=⟨O.gr,O.l1,O.l8,O.t1,O.t2,O.tg,O.ro,hll.trans O.ldl,(by show (lds.map (·.1)).Nodup;rw [e1];exact nd),(λx hx z=>ng (by have z:x.1=g2:=z;rw [<- z,<- e1];exact b9 hx)),O.pb,B.ne q20,O.gb,B.ne l20,O.zb,O.k1,O.k2,O.k3,(λx hx=>by obtain ⟨_,y,hy,e⟩:=hld x hx;rw [<- e];exact O.m1 y hy),(λx hx=>by obtain ⟨_,y,hy,e⟩:=hld x hx;rw [<- e];exact O.m2 y hy),(λx hx=>by obtain ⟨_,y,hy,e⟩:=hld x hx;rw [<- e];exact O.m3 y hy)⟩
  have hD:∀a,(a=g2\/∃x∈lds,x.1=a)->H a=none:=λa ha=>by
   rcases ha with rfl | ⟨x,hx,rfl⟩
   ·exact g20
   ·exact as0 _ (by rw [<- e1];exact b9 hx)
  have B1:=B.same s1
  have g2b:=B.ne g20
  have q2b:=B.ne q20
  have hw1:=hw.keep (ji.same s1)
  have dgr:∀{H':Hp},H' s2=some (.dK (scK c.p q2 g2 c.gl l2))->qP H' s2 (.str "rows") (some (.ref q2)):=λh=>by rw [<- gI c.p q2 g2 c.gl l2];exact qP.k (k:=.inr "rows") h
  have dgs:∀{H':Hp},H' s2=some (.dK (scK c.p q2 g2 c.gl l2))->qP H' s2 (.str "single") (some (.ref g2)):=λh=>by rw [<- zq c.p q2 g2 c.gl l2];exact qP.k (k:=.inr "single") h
  walk_at "r"
  refine ⟨s2,.ref g2,rfl,dgs hs,?_⟩
  walk_at "r"
  refine ⟨g2,_,rfl,.inl hg,?_⟩
  rw [af]
  walk_at "r"
  refine ⟨s2,.ref q2,rfl,dgr hs,?_⟩
  walk_at "r"
  refine ⟨q2,_,rfl,.inl (SqL.of hq),?_⟩
  rw [hyl]
  walk_at "r"
  refine ⟨L,b,_,rfl,B1,⟨(),()⟩,λpk H2 pk0 pk1 B2 X2=>?_⟩
  have S2:=S1.ext O1 B1 X2
  have hg2:=X2 _ _ hg g2b
  have hq2:=X2 _ _ hq q2b
  have hw2:=hw1.keep (qa B1 X2)
  have x02:Ext b H H2:=λa o h n=>X2 _ _ (s1 _ _ h) n
  clear S1 B1 hw1 X2 hq hg hl hv hs S'
  walk_at "r"
  refine ⟨s2,.ref g2,rfl,dgs S2.sd,?_⟩
  walk_at "r"
  refine ⟨g2,_,c.sk.map (·.1),rfl,.inl hg2,by rw [bB,bB];rfl,by rw [af];omega,λyl H3 hyl3 hyl33 s3=>?_⟩
  have S3:=S2.same s3
  have hg3:=s3 _ _ hg2
  have hq3:=s3 _ _ hq2
  have hw3:=hw2.keep (ji.same s3)
  have B3:=B2.same s3
  have x03:Ext b H H3:=x02.trans (Ext.of_same s3)
  have ylb:yl≠b:=B2.ne hyl3
  clear S2 hg2 hq2 hw2 B2 x02
  obtain ⟨j,ej⟩:∃j:Nat,pk % (c.ts.length:Int)=(j:Int):=⟨(pk % (c.ts.length:Int)).toNat,by have:=cS pk (show (c.ts.length:Int)≠0 by omega);omega⟩
  have hjl:j<c.ts.length:=by have:=cp pk (show 0<(c.ts.length:Int) by omega);omega
  obtain ⟨tj,htj⟩:∃tj,c.ts[j]? = some tj:=⟨_,aa hjl⟩
  obtain ⟨q,hq',rj,erj,hrj⟩:=Paired.get S3.r3 (aa (show j<c.ys.length by omega))
  rw [htj] at hq'
  cases hq'
  have gj:good tj=true:=List.all_eq_true.mp O.tg tj (au htj)
  walk_at "r"
  refine ⟨s2,.ref q2,rfl,dgr S3.sd,?_⟩
  walk_at "r"
  refine ⟨s2,.ref q2,rfl,dgr S3.sd,?_⟩
  walk_at "r"
  refine ⟨q2,_,rfl,.inl (SqL.of hq3),?_⟩
  rw [hyl]
  walk_at "r"
  refine ⟨_,_,pk % (c.ts.length:Int),_,rfl,rfl,SqL.of hq3,qx (v:=V.ref rj) () (by rw [ej,bK,aa (show j<c.ys.length by omega),erj]),?_⟩
  walk_at "r"
  refine ⟨λσ H4=>∃(r:Addr) (t:T3),σ=[some (.ref b),some (.ref s2),some (.int pk),some (.ref yl),some (.ref r),none,none]/\H4=H3/\H3 r=some (zj t)/\good t=true/\(pk<(c.sk.length:Int)->∃q,wr[pk.toNat]? = some q/\q.2=t)/\(¬pk<(c.sk.length:Int)->t=tj),?_,?_⟩
  ·walk_at "r"
   refine ⟨yl,_,rfl,.inl (SqL.of hyl33),?_⟩
   rw [af,af]
   walk_at "r"
   refine qS (λz=>?_) (λz=>?_)
   ·have hi:pk.toNat<c.sk.length:=()
    obtain ⟨zk,hzk⟩:∃zk,c.sk[pk.toNat]? = some zk:=⟨_,aa hi⟩
    obtain ⟨q,hqw,e,hzq⟩:=Paired.get hw3 hzk
    walk_at "r"
    refine ⟨s2,.ref g2,rfl,dgs S3.sd,?_⟩
    walk_at "r"
    refine ⟨_,_,_,_,rfl,rfl,SqL.of hyl33,qx (v:=V.int zk.1) pk0 (by rw [ar,ar,hzk];rfl),?_⟩
    refine ⟨g2,.ref zk.2,rfl,by rw [<- ua O.k1 (au hzk)];exact qP.k (k:=.inl zk.1) hg3,?_⟩
    walk_at "r"
    exact ⟨zk.2,q.2,rfl,rfl,hzq,wgood q (au hqw),λ_=>⟨q,hqw,rfl⟩,λn=>absurd z n⟩
   ·walk_at "r"
    exact ⟨rj,tj,rfl,rfl,hrj,gj,λn=>absurd n z,λ_=>rfl⟩
  rintro σ H4 ⟨r,t,rfl,rfl,hr3,gt,hA,hB⟩
  have gp:=Qz gt
  walk_at "r"
  refine ⟨L,b,_,rfl,B3,⟨⋯,⋯⟩,λmo H5 mo0 mo1 B5 X5=>?_⟩
  have S5:=S3.ext O1 B3 X5
  have hg5:=X5 _ _ hg3 g2b
  have hq5:=X5 _ _ hq3 q2b
  have hw5:=hw3.keep (qa B3 X5)
  have hr5:H5 r=some (.tup [.int t.1,.int t.2.1,.int t.2.2]):=X5 _ _ hr3 (B3.ne_tup hr3)
  have hyl5:=X5 _ _ hyl33 ylb
  have x05:Ext b H H5:=x03.trans X5
  clear S3 hg3 hq3 hw3 hr3 hyl33 x03 X5 B3 hrj
  walk_at "r"
  refine ⟨_,_,rfl,?_⟩
  walk_at "r"
  refine ⟨_,_,rfl,?_⟩
  walk_at "r"
  refine ⟨by show 3<=sizeLine;decide,λnt H6 hnt hnt6 s6=>?_⟩
  obtain ⟨u,eu⟩:∃u:T3,u=(t.1,(if t.2.1+mo<9 then t.2.1+mo else 9),(if t.2.2-1+mo > 0 then t.2.2-1+mo else 0)):=⟨_,rfl⟩
  have hnt6:H6 nt=some (zj u):=by rw [eu];exact hnt6
  have ru:y6 t u:=by
   rw [eu]
   refine ⟨rfl,?_,?_⟩
   ·show t.2.1<=if t.2.1+mo<9 then t.2.1+mo else 9
    split <;> omega
   ·show (if t.2.2-1+mo > 0 then t.2.2-1+mo else 0)<=t.2.2
    split <;> omega
  have gu:good u=true:=by
   rw [eu]
   refine decide_eq_true ⟨gp.1,gp.2.1,?_,?_,?_,?_⟩
   ·show 0<=if t.2.1+mo<9 then t.2.1+mo else 9
    split <;> omega
   ·show (if t.2.1+mo<9 then t.2.1+mo else 9)<=9
    split <;> omega
   ·show 0<=if t.2.2-1+mo > 0 then t.2.2-1+mo else 0
    split <;> omega
   ·show (if t.2.2-1+mo > 0 then t.2.2-1+mo else 0)<=9
    split <;> omega
  clear eu gp gt
  have S6:=S5.same s6
  have hg6:=s6 _ _ hg5
  have hq6:=s6 _ _ hq5
  have hw6':=hw5.keep (ji.same s6)
  have hyl6:=s6 _ _ hyl5
  have B6:=B5.same s6
  have x06:Ext b H H6:=x05.trans (Ext.of_same s6)
  clear S5 hg5 hq5 hw5 hr5 hyl5 x05 B5
  walk_at "r"
  refine ⟨yl,_,rfl,.inl (SqL.of hyl6),?_⟩
  rw [af,af]
  walk_at "r"
  refine qS (λz=>?_) (λz=>?_)
  ·have hi:pk.toNat<c.sk.length:=()
   obtain ⟨zk,hzk⟩:∃zk,c.sk[pk.toNat]? = some zk:=⟨_,aa hi⟩
   obtain ⟨q,hqw,eqt⟩:=hA z
   obtain ⟨q',hqw',e,_⟩:=Paired.get hw6' hzk
   rw [hqw] at hqw'
   cases hqw'
   have hin:zk.1∈c.sk.map (·.1):=b9 (au hzk)
   have hinw:zk.1∈wr.map (·.1):=by rw [hwk];exact hin
   walk_at "r"
   refine ⟨s2,.ref g2,rfl,dgs S6.sd,?_⟩
   walk_at "r"
   refine ⟨_,_,_,_,rfl,rfl,SqL.of hyl6,qx (v:=V.int zk.1) pk0 (by rw [ar,ar,hzk];rfl),?_⟩
   refine ⟨g2,_,rfl,vx.k (k:=.inl zk.1) hg6 (by rw [af];exact je ()),?_⟩
   have ep:qf (c.sk.map kvA) (.inl zk.1) (.ref nt)=(qC c.sk zk.1 nt).map kvA:=vv V.ref c.sk zk.1 nt
   rw [ep]
   have nG:∀{a:Addr} {o:HO},H6 a=some o->(∀kvs,o≠.dK kvs)->(upd H6 g2 (.dK ((qC c.sk zk.1 nt).map kvA))) a=some o:=λh n=>by rw [j5 (jh h hg6 (n _))];exact h
   walk_at "r"
   refine k s2 { c with q:=q2,sg:=g2,ll:=l2,lds:=lds,sk:=qC c.sk zk.1 nt } (qC wr zk.1 u) _ (B6.put g2b (λw=>by
    obtain ⟨_,_,_,_,_,_,_,hL,_⟩:=B6
    rw [<- w,hg6] at hL
    cases hL)) (λa o h n=>by rw [j5 (j1 h g20)];exact x06 a o h n) ?_ ?_ ?_ rfl rfl e2 (λy=>?_) hD
   ·refine ⟨by rw [j5 sg];exact S6.sd,nG S6.p (by walk_at "w"),S6.rv.keep λ_ _ h=>nG h (by walk_at "w"),nG S6.q (by walk_at "w"),S6.r3.imp λ_ _ h=>nG h (by walk_at "w"),nG S6.gl (by walk_at "w"),pmM S6.gi λv hv w ⟨a,ea,q⟩=>⟨a,ea,nG q (by walk_at "w")⟩,nG S6.ll (by walk_at "w"),.inl j7,λy hy=>?_,λx hx=>?_⟩
    ·rcases yc hy with w | w
     ·obtain ⟨v,hv,g⟩:=S6.sk _ w
      exact ⟨v,nG hv (by walk_at "w"),g⟩
     ·subst w
      exact ⟨u,nG hnt6 (by walk_at "w"),gu⟩
    ·rcases S6.ld x hx with w | ⟨o,w⟩
     ·exact .inl (by rw [j5 (O1.ns x hx)];exact w)
     ·exact .inr ⟨o,nG w (by walk_at "w")⟩
   ·refine ⟨O1.gr,O1.l1,O1.l8,O1.t1,O1.t2,O1.tg,O1.ro,O1.ldl,O1.nd,O1.ns,O1.pb,O1.qb,O1.gb,O1.lb,O1.zb,yT O.k1,λy hy=>?_,?_,O1.m1,O1.m2,O1.m3⟩
    ·rcases yc hy with w | w
     ·exact O.k2 y w
     ·subst w
      exact O.k2 zk (au hzk)
    ·show (qC c.sk zk.1 nt).length<=10
     rw [uB hin,af]
     exact k3
   ·have hx:=qW.put (k:=zk.1) hw6' hnt6
    rw [<- uB hin,<- uB hinw] at hx
    exact hx.keep λa xs h=>nG h (by walk_at "w")
   ·have e':zk.1=q.1:=e
    rw [e']
    exact XZ (by rw [hwk];exact O.k1) hqw (eqt ▸ ru) y
  ·have:=hB z
   subst this
   walk_at "r"
   refine ⟨s2,.ref q2,rfl,dgr S6.sd,?_⟩
   walk_at "r"
   refine ⟨s2,.ref q2,rfl,dgr S6.sd,?_⟩
   walk_at "r"
   refine ⟨q2,_,rfl,.inl (SqL.of hq6),?_⟩
   rw [hyl]
   walk_at "r"
   refine ⟨q2,c.ys,pk % (c.ts.length:Int),j,rfl,rfl,hq6,?_,?_⟩
   ·rw [ej]
    unfold ixN
    rw [if_pos (),if_pos (),bK]
   have nQ:∀{a:Addr} {o:HO},H6 a=some o->a≠q2->(upd H6 q2 (.lst (c.ys.set j (.ref nt)))) a=some o:=λh n=>by rw [j5 n];exact h
   have nT:∀{a:Addr} {o:HO},H6 a=some o->(∀xs,o≠.lst xs)->a≠q2:=λh n=>jh h hq6 (n _)
   have old:∀{a:Addr} {o:HO},H a=some o->a≠q2:=λh=>j1 h q20
   walk_at "r"
   refine k s2 { c with q:=q2,sg:=g2,ll:=l2,lds:=lds,ys:=c.ys.set j (.ref nt),ts:=c.ts.set j u } wr _ (B6.put q2b (B.neL q20)) (λa o h n=>by rw [j5 (old h)];exact x06 a o h n) ?_ ?_ ?_ rfl rfl e2 (λy=>Yd htj ru y) hD
   ·refine ⟨nQ S6.sd (nT S6.sd (by walk_at "w")),nQ S6.p (old S.p),S6.rv.keep λ_ _ h=>nQ h (nT h (by walk_at "w")),j7,qh.setV (S6.r3.imp λ_ _ h=>nQ h (nT h (by walk_at "w"))) (nQ hnt6 (nT hnt6 (by walk_at "w"))),nQ S6.gl (old S.gl),?_,nQ S6.ll ql.symm,.inl (nQ hg6 (nT hg6 (by walk_at "w"))),λy hy=>?_,λx hx=>?_⟩
    ·refine pmM S6.gi λv hv w ⟨a,ea,q⟩=>⟨a,ea,nQ q ?_⟩
     subst ea
     obtain ⟨i,hi,ei⟩:=List.mem_iff_getElem.mp hv
     obtain ⟨_,_,a',ea',h'⟩:=Paired.get S.gi (aa hi)
     have:a=a':=V.ref.inj (ei.symm.trans ea')
     exact old (this ▸ h')
    ·obtain ⟨v,hv,g⟩:=S6.sk _ hy
     exact ⟨v,nQ hv (nT hv (by walk_at "w")),g⟩
    ·rcases S6.ld x hx with w | ⟨o,w⟩
     ·exact .inl (nQ w (nT w (by walk_at "w")))
     ·exact .inr ⟨o,nQ w (nT w (by walk_at "w"))⟩
   ·refine ⟨O1.gr,O1.l1,O1.l8,(by show 1<=(c.ts.set j u).length;rw [cQ];exact t1),(by show (c.ts.set j u).length<=12;rw [cQ];exact t2),?_,O1.ro,O1.ldl,O1.nd,O1.ns,O1.pb,O1.qb,O1.gb,O1.lb,O1.zb,O1.k1,O1.k2,O1.k3,O1.m1,O1.m2,O1.m3⟩
    show (c.ts.set j u).all good=true
    rw [bG]
    intro x hx
    rcases List.mem_or_eq_of_mem_set hx with w | w
    ·exact List.all_eq_true.mp O.tg x w
    ·rw [w];exact gu
   ·exact hw6'.keep λa xs h=>nQ h (nT h (by walk_at "w"))
theorem Zw {v a b:Int}(h0:0<=v) (h1:v<2) (ha:0<=a/\a<=99) (hb:0<=b/\b<10 ^ 40):∃n:Nat,atI [V.int a,V.int b] v=some (V.int (n:Int))/\(n:Int)<=10 ^ 40:=by
 have h:v=0\/v=1:=()
 rcases h with rfl | rfl
 ·exact ⟨a.toNat,by rw [lN ha.1];rfl,()⟩
 ·exact ⟨b.toNat,by rw [lN hb.1];rfl,()⟩
theorem Lw.pt {C L b sd p Pt:Addr}{c:ScN}{g:IceG}{H0 H H':Hp}(W:Lw C L b sd p c g H0 H) (T0:qm H0 Pt) (T:qm H Pt) (f:∀a o,H a=some o->a≠Pt->H' a=some o):Lw C L b sd p c g H0 H':=by
 obtain ⟨ps,hP⟩:=T.ne
 obtain ⟨ps0,hP0⟩:=T0.ne
 refine ⟨?_,W.S.fr T λa o h n=>.inl (f a o h n),W.I.stay W.F (λa o h n=>f a o h λz=>by rw [z,hP0] at n;cases n) (λa xs h=>f _ _ h (jh h hP (by walk_at "z"))),W.O,W.F,W.B0,W.S0⟩
 obtain ⟨ns,a,r,c,d,h1,h2,h3,h4⟩:=W.B
 exact ⟨ns,a,r,c,d,f _ _ h1 (jh h1 hP (by walk_at "z")),h2,f _ _ h3 (jh h3 hP (by walk_at "z")),h4⟩
def xC:List Q4->ResD
 | []=>.off 0
 | [q]=>if q.2.2.2=0 then .left q.1 q.2.1 else .off (q.1+1)
 | q::q'::r=>if q.2.2.2=0 then .left q.1 q.2.1 else xC (q'::r)
theorem J8 (a b c d:Int):JU [(a,b,c,d)]=if c+d=0 then .left a b else .off (a+1):=rfl
theorem Zg {x:Q4}{l:List Q4}(h:l≠[]):JU (x::l)=JU l:=by
 cases l with
 | nil=>exact absurd rfl h
 | cons y r =>
  unfold JU
  rw [fX,fX,fX]
theorem Xl:∀(rows:List Q4) (b:Int),rows≠[]->JU (yq b rows)=xC rows
 | [],b,h=>absurd rfl h
 | [q],b,_=>by
  have e:yq b [q]=[(q.1,q.2.1,q.2.2.2-min b q.2.2.2,min b q.2.2.2)]:=by
   show _::(if q.2.2.2=0 then [] else [])=_
   split <;> rfl
  rw [e,J8,show q.2.2.2-min b q.2.2.2+min b q.2.2.2=q.2.2.2 by omega]
  rfl
 | q::q'::r,b,_=>by
  have ih:=Xl (q'::r) (min b q.2.2.2) (dH _ _)
  by_cases z:q.2.2.2=0
  ·have e:yq b (q::q'::r)=[(q.1,q.2.1,q.2.2.2-min b q.2.2.2,min b q.2.2.2)]:=by
    show _::(if q.2.2.2=0 then [] else _)=_
    rw [if_pos z]
   rw [e,J8,show q.2.2.2-min b q.2.2.2+min b q.2.2.2=q.2.2.2 by omega]
   show _=if q.2.2.2=0 then _ else _
   rw [if_pos z,if_pos z]
  ·have e:yq b (q::q'::r)=(q.1,q.2.1,q.2.2.2-min b q.2.2.2,min b q.2.2.2)::yq (min b q.2.2.2) (q'::r):=by
    show _::(if q.2.2.2=0 then [] else _)=_
    rw [if_neg z]
   rw [e,Zg Xf,ih]
   show _=if q.2.2.2=0 then _ else _
   rw [if_neg z]
def yrR:ResD->Int
 | .left y _=>y
 | .off y=>y
def wdR:ResD->Str
 | .left _ _=>"left"
 | .off _=>"off"
def tlR:ResD->List V
 | .left _ n=>[.int n]
 | .off _=>[]
theorem JT (r:ResD):V3 r = .str (wdR r) :: .int (yrR r)::tlR r:=by cases r <;> rfl
theorem gL:∀(rows:List Q4) {Y:Int},rows≠[]->(∀q∈rows,Y<=q.1)->Y<=yrR (xC rows)
 | [],_,h,_=>absurd rfl h
 | [q],Y,_,hY=>by
  have:=hY q (aC ..)
  unfold xC
  split
  ·exact this
  ·show Y<=q.1+1
   omega
 | q::q'::r,Y,_,hY=>by
  have h0:=hY q (aC ..)
  have ih:=gL (q'::r) (Y:=Y) (dH _ _) λx hx=>hY x (az _ hx)
  unfold xC
  split
  ·exact h0
  ·exact ih
def Dq (q q':Q4):Prop:=q.1=q'.1/\q.2.1=q'.2.1/\0<=q.2.2.2/\q.2.2.2<=q'.2.2.2
theorem ki:∀{r1 r2:List Q4}{y:Int},cf Dq r1 r2->r1≠[]->(∀(i:Nat) q,r2[i]? = some q->q.1=y+(i:Int))->yrR (xC r1)<=yrR (xC r2)/\∀z,xC r1 = .off z->xC r2 = .off z
 | _,_,_,.nil,h,_=>absurd rfl h
 | _,_,y,.cons (a:=q) (b:=q') ⟨h1,h2,h3,h4⟩ .nil,_,_=>by
  unfold xC
  by_cases z:q.2.2.2=0
  ·rw [if_pos z]
   refine ⟨?_,λw e=>by cases e⟩
   split
   ·exact Int.le_of_eq h1
   ·show q.1<=q'.1+1
    omega
  ·rw [if_neg z,if_neg (),h1]
   exact ⟨cV _,λ_ e=>e⟩
 | _,_,y,.cons (a:=q) (b:=q') ⟨h1,h2,h3,h4⟩ (.cons (a:=x) (b:=x') (l₁:=r) (l₂:=r') hx hr),_,hy=>by
  have ih:=ki (y:=y+1) (.cons hx hr) (dH _ _) λi u hu=>by
   have:=hy (i+1) u hu
   omega
  have hg:=gL (x'::r') (Y:=q'.1) (dH _ _) λu hu=>by
   obtain ⟨i,hi,e⟩:=List.mem_iff_getElem.mp hu
   have a1:=hy (i+1) u (by show (x'::r')[i]? = _;rw [aa hi,e])
   have a0:=hy 0 q' rfl
   omega
  show yrR (if q.2.2.2=0 then ResD.left q.1 q.2.1 else xC (x::r))<=yrR (if q'.2.2.2=0 then ResD.left q'.1 q'.2.1 else xC (x'::r'))/\∀z,(if q.2.2.2=0 then ResD.left q.1 q.2.1 else xC (x::r)) = .off z->(if q'.2.2.2=0 then ResD.left q'.1 q'.2.1 else xC (x'::r')) = .off z
  by_cases z:q.2.2.2=0
  ·rw [if_pos z]
   refine ⟨?_,λw e=>by cases e⟩
   show q.1<=_
   split
   ·exact Int.le_of_eq h1
   ·rw [h1];exact hg
  ·rw [if_neg z,if_neg ()]
   exact ih
theorem kL {ns:List (Int×Int)}{gd:List Int}{wr wr2:List (Int×T3)}{ts ts2:List T3}(h:∀z,y6 (zR wr ts z) (zR wr2 ts2 z)) (m fst:Int):∀i,zD ns gd wr ts m fst i<=zD ns gd wr2 ts2 m fst i
 | 0=>cV _
 | i+1=>by
  have ih:=kL (ns:=ns) (gd:=gd) h m fst i
  have hc:xF ns gd wr ts m (fst+(i:Int))<=xF ns gd wr2 ts2 m (fst+(i:Int)):=(h _).up _
  show zD ns gd wr ts m fst i+(if xF ns gd wr ts m (fst+(i:Int)) > - zD ns gd wr ts m fst i then xF ns gd wr ts m (fst+(i:Int)) else-zD ns gd wr ts m fst i)<=zD ns gd wr2 ts2 m fst i+(if xF ns gd wr2 ts2 m (fst+(i:Int)) > - zD ns gd wr2 ts2 m fst i then xF ns gd wr2 ts2 m (fst+(i:Int)) else-zD ns gd wr2 ts2 m fst i)
  split <;> split <;> omega
theorem ui {α:Type}{f g:α->Q4}(h:∀i,Dq (f i) (g i)):∀l:List α,cf Dq (l.map f) (l.map g)
 | []=>.nil
 | x::l=>.cons (h x) (ui h l)
theorem XY {ms:List (Int×Int)}{gd:List Int}{wr wr2:List (Int×T3)}{ts ts2:List T3}(h:∀z,y6 (zR wr ts z) (zR wr2 ts2 z)) (m:Int) (k:Nat):cf Dq ((jS ms gd wr ts m).drop k) ((jS ms gd wr2 ts2 m).drop k):=by
 unfold jS ud
 rw [<- oG,<- oG]
 exact ui (f:=vt ms gd wr ts m (js 0 0 ms m)) (g:=vt ms gd wr2 ts2 m (js 0 0 ms m)) (λi=>⟨rfl,rfl,uk ms gd wr ts m _ (i+1),kL h m _ (i+1)⟩) _
theorem we {ms:List (Int×Int)}{gd:List Int}{wr:List (Int×T3)}{ts:List T3}{m:Int}{k:Nat}:∀(i:Nat) q,((jS ms gd wr ts m).drop k)[i]? = some q->q.1=js 0 0 ms m+(k:Int)+(i:Int):=λi q hq=>by
 rw [lZ] at hq
 have hi:k+i<(js 0 0 ms (m+(gd.length:Int))-js 0 0 ms m).toNat:=by
  have:=(List.getElem?_eq_some_iff.mp hq).1
  rw [xL] at this
  exact this
 rw [wf hi] at hq
 rw [<- aR hq]
 show js 0 0 ms m+((k+i:Nat):Int)=_
 omega
theorem at_0 {x y:V}{l:List V}:atI (x::y::l) 0=some x:=qx (cV 0) rfl
theorem UZ {x y:V}{l:List V}:atI (x::y::l) 1=some y:=qx () rfl
theorem Xn {H:Hp}{a:Addr}{y:Int}(h:H a=some (.tup (V3 (.off y)))):Dat H (.ref a) (.tuple [.str "off",.int y]):=.tup h (.cons (.str _) (.cons (.int _) .nil))
theorem vU (y:Int):iN (.tuple [.str "off",.int y])=true:=by
 simp [iN,PyData.canLay0,PyData.canLayAll0,PyData.depth,PyData.depthAll]
 decide +kernel
theorem xT:FnScope ["_law_script","_law_box_here","_law_scene_here","_law_ice","_law_other","_law_turn","_law_lane","_law_place","_law_year_here","_law_one","_law_two"] ["_law_script"] (j8 vI):=by walk_at "s"
theorem Vx {f C CN CP CY Pt:Addr}{fd:FuncData}(nb:Nb2 mg)
  (c_law_box:Cal P w K mg base 1 "_law_box" ["_law_script"] (ZR K)) (c_law_take:Cal P w K mg base 2 "_law_take" ["_law_box_here","_law_size"] xb) (c_law_scene:Cal P w K mg base 5 "_law_scene" ["_law_box_here"] Xc) (c_law_made:Cal P w K mg base 10 "_law_made" ["_law_scene_here"] (ZS C Pt)) (c_law_richer:Cal P w K mg base 3 "_law_richer" ["_law_box_here","_law_scene_here"] Jd)
  (c_law_spot:Cal P w K mg base 3 "_law_spot" ["_law_box_here","_law_scene_here"] Y8) (c_law_year:Cal P w K mg base 3 "_law_year" ["_law_box_here"] JZ) (c_law_far:Cal P w K mg base 3 "_law_far" ["_law_box_here"] Vm) (c_rest:CalX P w K mg base 7 "rest" ["ice","lane","place","year"] (QC C CN CP CY))
  (F:Fun K "law" "law" vI f fd):FnOk P w K mg base CX0 11 f fd ["_law_script"] (JR K Pt):=by
 refine F.ok xT (λvs H Q E h=>?_) (λcdv A outer s H vs Q E hr h=>?_)
 ·obtain ⟨a,ns,rfl,_⟩:=h
  rfl
 ·obtain ⟨a,ns,rfl,hS,h63,hPt,k⟩:=h
  have T0:qm H Pt:=.inl hPt
  refine ⟨_,(j4 (ju 1 xT.nd (jd c_law_box (hr.mono ⋯) rfl (j0 (pv 0) j2)))
   (j4 (ju 2 xT.nd (jd c_law_scene (hr.mono ⋯) rfl (j0 (pv 1) j2)))
   (j4 (ju 3 xT.nd (jd c_law_made (hr.mono ⋯) rfl (j0 (pv 2) j2)))
   (j4 (ju 4 xT.nd (jd c_law_made (hr.mono ⋯) rfl (j0 (jd c_law_richer (hr.mono ⋯) rfl (j0 (pv 1) (j0 (pv 2) j2))) j2)))
   (vB (xh bt rfl (qw rfl nb.b_range (j0 j6 j2)) (jc (i:=5) xT.nd rfl (aS rfl)) (j4 (xR (jd c_law_spot (hr.mono ⋯) rfl (j0 (pv 1) (j0 (pv 2) j2))) (qI (n:=2) K rfl (jr (jc (i:=6) xT.nd rfl (aS rfl)) (jr (jc (i:=7) xT.nd rfl (aS rfl)) qN))))
   (j4 (ju 8 xT.nd (jp (jb K) (jM (j0 (jd c_law_year (hr.mono ⋯) rfl (j0 (pv 1) j2)) (j0 (jd c_law_far (hr.mono ⋯) rfl (j0 (pv 1) j2)) j2))) (jd c_law_take (hr.mono ⋯) rfl (j0 (pv 1) (j0 j6 j2))) (λ_ _=>rfl)))
   (j4 (ju 9 xT.nd (jd c_rest.cal (hr.mono ⋯) rfl (j0 (pv 3) (j0 (pv 6) (j0 (pv 7) (j0 (pv 8) j2))))))
   (j4 (ju 10 xT.nd (jd c_rest.cal (hr.mono ⋯) rfl (j0 (pv 4) (j0 (pv 6) (j0 (pv 7) (j0 (pv 8) j2))))))
   (j4 (qj (PW.pt (Y0 (qT (yN (jg (vz K) rfl nb.b_isinstance nj (j0 (pv 9) (j0 (QL (v:=V.ty "tuple") rfl nb.b_tuple cw rfl) j2))))) (Y0 (qT (yN (jg (vz K) rfl nb.b_isinstance nj (j0 (pv 10) (j0 (QL (v:=V.ty "tuple") rfl nb.b_tuple cw rfl) j2))))) (ZZ (qT (x5 Jt Jt (jp (qo K) (pv 10) j6 (λ_ _=>rfl)) (jp (qo K) (pv 9) j6 (λ_ _=>rfl)) (pv 8))))))) (j9 (jj kD)) jD)
   (j9 (qj (PW.pt (ZT (jI wg (jp (qo K) (pv 9) j6 (λ_ _=>rfl)) jw (qe _)) (QO (jI (YR K hr.units) (pv 10) (pv 9) (qe _))))) (j9 (jj kD)) jD))))))))
   (j9 (jj kD))))))),?_⟩
  walk_at "r"
  refine ⟨a,ns,rfl,hS,λL b H1 hb B1 s1=>?_⟩
  have T1:=T0.same s1
  walk_at "r"
  refine ⟨L,b,rfl,B1,λsd H2 c B2 X2 S2 O=>?_⟩
  have T2:=gq B1 X2 T1
  walk_at "r"
  refine ⟨sd,b,c,rfl,S2,O,T2,λp H3 g I3 F3 R3 TT3 er et es ek el ld ny nd=>?_⟩
  have W3:Lw C L b sd p c g H2 H3:=Lw.start S2 O B2 T2 I3 F3 R3
  have kk:Lk c g:=⟨er,et,es,ek,el,ld,ny,nd⟩
  clear I3 R3 F3 er et es ek el ld ny nd
  have hw1:1<=c.ws.length:=by
   rw [O.ro.length]
   exact k9 (jV O.gr.ok) O.l1
  have hw6:c.ws.length<=6:=by rw [O.ro.length];exact O.gr.heads
  have hg30:∀w∈c.ws,1<=(ja c.rs w).length/\(ja c.rs w).length<=30:=λw hw=>⟨uL O.gr O.ro hw,(uh (O.gr.good O.l1 O.l8)).2.2.2 c.ws O.ro w hw⟩
  have hll:g.lds.length=g.slopes.length:=by rw [kk.ll,O.ldl,kk.sl,af]
  have t1:=O.t1
  have t2:=O.t2
  obtain ⟨wr,hwr⟩:=qW.of W3.S.sk
  have wgood:=hwr.good W3.S.sk
  have sgood:=λy=>JJ wgood O.tg t1 y
  walk_at "r"
  refine ⟨L,b,sd,c,wr,rfl,W3.B,W3.S,O,hwr,hw6,λsd2 c2 wr2 H4 B4 X4 S4 O2 hw24 ers ews els hrich hfr=>?_⟩
  have W4:=W3.take B4 X4
  have hw4:=hwr.keep (qa W3.B X4)
  have T4:=gq W3.B X4 TT3
  walk_at "r"
  refine ⟨sd2,b,c2,rfl,S4,O2,T4,λp2 H5 g2 I5 F5 R5 T5 er et es ek el ld ny nd=>?_⟩
  have V5:Lw C L b sd2 p2 c2 g2 H4 H5:=Lw.start S4 O2 B4 T4 I5 F5 R5
  have kk2:Lk c2 g2:=⟨er,et,es,ek,el,ld,ny,nd⟩
  obtain ⟨ps,hP4⟩:=T4.ne
  have f35:∀a o,H3 a=some o->a≠b->a≠Pt->H5 a=some o:=λa o h n1 n2=>by
   rcases R5 a o (X4 _ _ h n1) n2 with z | ⟨m,_⟩
   ·exact z
   ·have:=hfr a m
    rw [h] at this
    cases this
  have bPt:b≠Pt:=by
   obtain ⟨_,_,_,_,_,hb',_⟩:=B4
   exact jh hb' hP4 (by walk_at "z")
  have W5:Lw C L b sd p c g H2 H5:=by
   have X':Ext b H3 (λa=>if a=Pt then H4 a else H5 a):=λa o h n=>by
    by_cases z:a=Pt
    ·show (if a=Pt then H4 a else H5 a)=_
     rw [if_pos z]
     exact X4 _ _ h n
    ·show (if a=Pt then H4 a else H5 a)=_
     rw [if_neg z]
     exact f35 a o h n z
   have eq5:∀a,a≠Pt->(λa=>if a=Pt then H4 a else H5 a:Hp) a=H5 a:=λa z=>if_neg z
   have B':jR L (λa=>if a=Pt then H4 a else H5 a) b:=by
    obtain ⟨ns,x,r,c',d,h1,h2,h3,h4⟩:=V5.B
    obtain ⟨_,_,_,_,_,_,_,h3',_⟩:=B4
    exact ⟨ns,x,r,c',d,(eq5 _ bPt).trans h1,h2,(eq5 _ (jh h3' hP4 (by walk_at "z"))).trans h3,h4⟩
   have T':=gq W3.B X' TT3
   exact (W3.take B' X').pt T2 T' λa o h n=>(eq5 a n).symm.trans h
  have hw5:qW H5 c.sk wr:=by
   refine hw4.keep λa xs h=>?_
   rcases R5 a _ h (jh h hP4 (by walk_at "z")) with z | ⟨_,_,_,e,_⟩
   ·exact z
   ·cases e
  have hw25:qW H5 c2.sk wr2:=by
   refine hw24.keep λa xs h=>?_
   rcases R5 a _ h (jh h hP4 (by walk_at "z")) with z | ⟨_,_,_,e,_⟩
   ·exact z
   ·cases e
  clear W4 hw4 W3 hwr I5 F5 R5 f35 X4 er et es ek el ld ny nd S4 B4 T5 T4 hw24 hfr
  have hll2:g2.lds.length=g2.slopes.length:=by rw [kk2.ll,O2.ldl,kk2.sl,af]
  have wgood2:=hw25.good V5.S.sk
  have sgood2:=λy=>JJ wgood2 O2.tg O2.t1 y
  have t12:=O2.t1
  have t22:=O2.t2
  have rsC:∀(p:Addr) (sd:Addr) (c:ScN) (g:IceG) (wr:List (Int×T3)) (H0 H3:Hp) (l n:Int) (y:Nat) (wy:List Int) (da:Addr) (dn ms:List (Int×Int)) (Q':VK),Lk c g->(g.lds.length=g.slopes.length)->ScOk b c->Lw C L b sd p c g H0 H3->qW H3 c.sk wr->LaneF c g l wy da dn->ms.Perm dn->(ms.map (·.1)).Pairwise (· <= ·)->0<=n->n<((ja c.rs wy).length:Int)->(y:Int)<=10 ^ 40->(∀o H4,H3 o=none->H4 o=some (.tup (V3 (xC ((jS ms (ja c.rs wy) wr c.ts ((y:Int)+jq dn (y:Int)-n)).drop ((y:Int)-js 0 0 ms ((y:Int)+jq dn (y:Int)-n)).toNat))))->jn H3 H4->Q' (.ref o) H4)->QC C CN CP CY [.ref p,.int l,.int n,.int (y:Int)] H3 Q' E0:=λp sd c g wr H0 H3 l n y wy da dn ms Q' kk hll O W' hw' LF hp hs n0 n1 y1 kq=>by
   have g30:=LF.g30
   have l0:=LF.l0
   have l1:=LF.l1
   have t1:=O.t1
   have t2:=O.t2
   refine ⟨p,g,l,n,(y:Int),c.sk,wr,rfl,W'.I,hll,kk.kv,hw',by rw [kk.rows];exact t1,by rw [kk.rows];omega,(λhb=>absurd hb ()),(λ_ _ hb=>absurd hb (by rw [LF.sl];omega)),λ_ _ _ _=>⟨dn,ms,LF.at_,(λq hq=>(LF.pos q hq).1),by rw [LF.sl];omega,hp,hs,(λH' s' hb=>absurd hb ()),λ_ _ W eW=>?_⟩⟩
   rw [LF.sl,kk.rows] at eW
   have onm:=(zC hp hs LF.nd LF.pos ((y:Int)+jq dn (y:Int)-n) ((ja c.rs wy).length:Int) (y:Int) ()).mp ()
   have hne:(jS ms (ja c.rs wy) wr c.ts ((y:Int)+jq dn (y:Int)-n)).drop ((y:Int)-js 0 0 ms ((y:Int)+jq dn (y:Int)-n)).toNat≠[]:=λz=>by
    have:=congrArg fm z
    rw [d0,xL,fC] at this
    omega
   have er:=Xl _ ((jS ms (ja c.rs wy) wr c.ts ((y:Int)+jq dn (y:Int)-n)).drop ((y:Int)-js 0 0 ms ((y:Int)+jq dn (y:Int)-n)).toNat |>.headD (0,0,0,0)).2.2.2 hne
   rw [show yq ((jS ms (ja c.rs wy) wr c.ts ((y:Int)+jq dn (y:Int)-n)).drop ((y:Int)-js 0 0 ms ((y:Int)+jq dn (y:Int)-n)).toNat |>.headD (0,0,0,0)).2.2.2 _=W from eW.symm] at er
   refine ⟨λz=>?_,λo H' h1 h2 h3=>kq o H' h1 (by rw [<- er];exact h2) h3⟩
   rw [z] at eW
   cases e:(jS ms (ja c.rs wy) wr c.ts ((y:Int)+jq dn (y:Int)-n)).drop ((y:Int)-js 0 0 ms ((y:Int)+jq dn (y:Int)-n)).toNat with
   | nil=>exact hne e
   | cons q r =>
    rw [e] at eW
    exact Xf eW.symm
  walk_at "r"
  refine ⟨λσ H9=>True,?_,?_⟩
  ·walk_at "r"
   refine ⟨⋯,⋯,?_⟩
   refine xJ (λi σ H6=>∃v5 v6 v7 v8 v9 v10:Option V,σ=[some (.ref a),some (.ref b),some (.ref sd),some (.ref p),some (.ref p2),v5,v6,v7,v8,v9,v10]/\Lw C L b sd p c g H2 H6/\Lw C L b sd2 p2 c2 g2 H4 H6/\qW H6 c.sk wr/\qW H6 c2.sk wr2) ?_ ?_ ?_
   ·exact ⟨_,_,_,_,_,_,rfl,W5,V5,hw5,hw25⟩
   ·clear W5 V5 hw5 hw25
    rintro i σ H6 hi ⟨v5,v6,v7,v8,v9,v10,rfl,W6,V6,hw6',hv6⟩
    walk_at "r"
    refine ⟨L,b,sd,c,rfl,W6.B,W6.S,O,hw1,hw6,hg30,λln n wy t H7 ln0 ln1 hwy n0 n1 B7 X7 ht ht7=>?_⟩
    have W7:=W6.take B7 X7
    have V7:=V6.take B7 X7
    have hw7:=hw6'.keep (qa W6.B X7)
    have hv7:=hv6.keep (qa W6.B X7)
    clear W6 V6 hw6' hv6
    obtain ⟨wy',da,dn,LF⟩:=kk.lane O ln0 ln1
    obtain rfl:wy'=wy:=aR (LF.way.symm.trans hwy)
    obtain ⟨wy2,da2,dn2,LF2⟩:=kk2.lane O2 ln0 (by rw [ews];exact ln1)
    have hway2:=LF2.way
    rw [ews,LF.way] at hway2
    have hway2:=aR hway2
    subst hway2
    have edn:dn2=dn:=by
     have h1:(c2.lds.map (·.2))[ln.toNat]? = some dn2:=by rw [ar,LF2.cd];rfl
     rw [els,ar,LF.cd] at h1
     exact (aR h1).symm
    subst edn
    obtain ⟨ms,hp,hs⟩:=wJ dn2
    walk_at "r"
    refine ⟨t,_,rfl,SqT.of ht7,rfl,?_⟩
    refine ⟨_,_,rfl,_,_,rfl,rfl,?_⟩
    walk_at "r"
    refine ⟨L,b,rfl,W7.B,λy1 H8 y10 y11 B8 X8=>?_⟩
    have W8:=W7.take B8 X8
    have V8:=V7.take B8 X8
    have hw8:=hw7.keep (qa W7.B X8)
    have hv8:=hv7.keep (qa W7.B X8)
    clear W7 V7 hw7 hv7
    walk_at "r"
    refine ⟨L,b,rfl,W8.B,λy2 H9 y20 y21 B9 X9=>?_⟩
    have W9:=W8.take B9 X9
    have V9:=V8.take B9 X9
    have hw9:=hw8.keep (qa W8.B X9)
    have hv9:=hv8.keep (qa W8.B X9)
    clear W8 V8 hw8 hv8
    walk_at "r"
    refine ⟨by show 2<=sizeLine;decide,λyl H10 hyl hyl0 s10=>?_⟩
    walk_at "r"
    refine ⟨L,b,_,rfl,W9.B.same s10,⟨⋯,⋯⟩,λyv H11 yv0 yv1 B11 X11=>?_⟩
    have W11:=(W9.same s10).take B11 X11
    have V11:=(V9.same s10).take B11 X11
    have hw11:=(hw9.keep (ji.same s10)).keep (qa (W9.B.same s10) X11)
    have hv11:=(hv9.keep (ji.same s10)).keep (qa (W9.B.same s10) X11)
    obtain ⟨y,ey,hyD⟩:=Zw yv0 yv1 ⟨y10,y11⟩ ⟨y20,y21⟩
    refine ⟨_,_,_,_,rfl,rfl,SqL.of (X11 _ _ hyl0 (W9.B.ne hyl)),ey,?_⟩
    clear W9 V9 hw9 hv9 hyl0 ey
    have onm:=(zC hp hs LF.nd LF.pos ((y:Int)+jq dn2 (y:Int)-n) ((ja c.rs wy').length:Int) (y:Int) ()).mp ()
    have hml:=XY (ms:=ms) (gd:=ja c.rs wy') hrich ((y:Int)+jq dn2 (y:Int)-n) ((y:Int)-js 0 0 ms ((y:Int)+jq dn2 (y:Int)-n)).toNat
    have hyr:=we (ms:=ms) (gd:=ja c.rs wy') (wr:=wr2) (ts:=c2.ts) (m:=(y:Int)+jq dn2 (y:Int)-n) (k:=((y:Int)-js 0 0 ms ((y:Int)+jq dn2 (y:Int)-n)).toNat)
    have hyr1:=we (ms:=ms) (gd:=ja c.rs wy') (wr:=wr) (ts:=c.ts) (m:=(y:Int)+jq dn2 (y:Int)-n) (k:=((y:Int)-js 0 0 ms ((y:Int)+jq dn2 (y:Int)-n)).toNat)
    have hlen:=xL ms (ja c.rs wy') wr c.ts ((y:Int)+jq dn2 (y:Int)-n)
    have hne:(jS ms (ja c.rs wy') wr c.ts ((y:Int)+jq dn2 (y:Int)-n)).drop ((y:Int)-js 0 0 ms ((y:Int)+jq dn2 (y:Int)-n)).toNat≠[]:=λz=>by
     have:=congrArg fm z
     rw [d0,hlen,fC] at this
     omega
    have hge:=gL _ (Y:=(y:Int)) hne λq hq=>by
     obtain ⟨i,hi,e⟩:=List.mem_iff_getElem.mp hq
     have:=hyr1 i q (by rw [aa hi,e])
     omega
    obtain ⟨hle,hoff⟩:=ki (y:=(y:Int)) hml hne λi q hq=>by
     have:=hyr i q hq
     omega
    clear hml hyr hyr1 hlen hne onm
    walk_at "r"
    simp only [Uc,br]
    refine rsC p sd c g wr H2 H11 ln n y wy' da dn2 ms _ kk hll O W11 hw11 LF hp hs n0 n1 hyD λo1 H12 ho1 ho12 s12=>?_
    walk_at "r"
    simp only [Uc,br]
    refine rsC p2 sd2 c2 g2 wr2 H4 H12 ln n y wy' da2 dn2 ms _ kk2 hll2 O2 (V11.same s12) (hv11.keep (ji.same s12)) LF2 hp hs n0 (by rw [ers];exact n1) hyD λo2 H13 ho2 ho23 s13=>?_
    rw [ers] at ho23
    have ho13:=s13 _ _ ho12
    generalize xC ((jS ms (ja c.rs wy') wr c.ts ((y:Int)+jq dn2 (y:Int)-n)).drop ((y:Int)-js 0 0 ms ((y:Int)+jq dn2 (y:Int)-n)).toNat)=R1 at *
    generalize xC ((jS ms (ja c.rs wy') wr2 c2.ts ((y:Int)+jq dn2 (y:Int)-n)).drop ((y:Int)-js 0 0 ms ((y:Int)+jq dn2 (y:Int)-n)).toNat)=R2 at *
    have hp1:=ho13
    have hp2:=ho23
    rw [JT] at hp1 hp2
    have sA:=s12.trans s13
    walk_at "r"
    refine ⟨_,_,_,_,rfl,.tup hp1,yb K,?_⟩
    walk_at "r"
    refine ⟨_,_,_,_,rfl,.tup hp2,yb K,?_⟩
    walk_at "r"
    refine ⟨_,_,_,_,rfl,rfl,SqT.of hp2,UZ,?_⟩
    walk_at "r"
    refine ⟨_,_,_,_,rfl,rfl,SqT.of hp1,UZ,?_⟩
    walk_at "r"
    refine qS (λ_=>?_) (λz=>absurd hle z)
    walk_at "r"
    refine zy (λz=>absurd hge z) (λ_=>?_)
    walk_at "r"
    refine ⟨_,_,_,_,rfl,rfl,SqT.of hp1,at_0,?_⟩
    walk_at "r"
    refine qS (λz=>?_) (λ_=>?_)
    ·have z:wdR R1 = "off":=V.str.inj z
     cases R1 with
     | left yl' nl=>exact absurd (show ag "left" = ag "off" from z) ∅
     | off yo =>
      have e2:=hoff yo rfl
      subst e2
      walk_at "r"
      refine ⟨λ_=>False,λ_=>False,_,_,Dat.rep (λ_=>id) (Xn ho23),Dat.rep (λ_=>id) (Xn ho13),vU yo,vU yo,_,rfl,Ur (SeqAt.eqv_refl _ (SeqAt.canLay_of_shaped (vU yo))) ?_⟩
      exact ⟨_,_,_,_,_,_,rfl,W11.same sA,V11.same sA,hw11.keep (ji.same sA),hv11.keep (ji.same sA)⟩
    ·exact ⟨_,_,_,_,_,_,rfl,W11.same sA,V11.same sA,hw11.keep (ji.same sA),hv11.keep (ji.same sA)⟩
   ·rintro σ H9 _
    trivial
  ·rintro σ H9 _
   walk_at "r"
   exact k H9
end
local macro_rules | `(tactic| walk_at "1")=>`(tactic| exact fun _ _ _ _ _ _ _ hl=>bnd1 hl fun _=>rfl)
local macro_rules | `(tactic| walk_at "2")=>`(tactic| exact fun _ _ _ _ _ _ _ hl=>bnd2 hl fun _ _=>rfl)
local macro_rules | `(tactic| walk_at "3")=>`(tactic| exact fun _ _ _ _ _ _ _ hl=>bnd3 hl fun _ _ _=>rfl)
local macro_rules | `(tactic| walk_at "4")=>`(tactic| exact fun _ _ _ _ _ _ _ hl=>bnd4 hl fun _ _ _ _=>rfl)
local macro_rules | `(tactic| walk_at "5")=>`(tactic| exact fun _ _ _ _ _ _ _ hl=>bnd5 hl fun _ _ _ _ _=>rfl)
local macro_rules | `(tactic| walk_at "6")=>`(tactic| exact fun _ _ _ _ _ _ _ hl=>bnd6 hl fun _ _ _ _ _ _=>rfl)
theorem VX {l:n9}{w:aX}{K:ai}{h:Heap}{mg:Str->Option ae}{fa:Addr}(X:K.In h) (G:h.Ns mainGlobals mg) (hfa:mg "law" = some (.ref fa))
  {CI:Addr}
  {C0:Addr}
  {C1:Addr}
  {C2:Addr}
  {C3:Addr}
  {C4:Addr}
  {C5:Addr}
  {C6:Addr}
  {u0:Tok}
  {u1:Tok}
  {u2:Tok}
  {u3:Tok}
  {u4:Tok}
  {u5:Tok}
  {u6:Tok}
  {u7:Tok}
  {u8:Tok}
  {u9:Tok}
  {u10:Tok}
  (aCI:aN K mainGlobals "Ice" = some (some (.ref CI))) (pgI:dE K CI Str.empty=true) (hdI:eI K CI=true) (poI:i0 K CI=true) (saI:bx K (.ref CI) "__setattr__" = some (some (.builtin "object.__setattr__"))) (mkI:iU K CI=true) (kcI:bD K (.ref CI)=true)
  (na0:bx K (.ref CI) "valley" = some none)
  (na1:bx K (.ref CI) "cycle" = some none)
  (na2:bx K (.ref CI) "slopes" = some none)
  (na3:bx K (.ref CI) "years" = some none)
  (na4:bx K (.ref CI) "leaps" = some none)
  (a1:gN K "leads_on" yJ)
  (a2:gN K "is_reach" zB)
  (a3:gN K "way_down" yU)
  (a4:aN K mainGlobals "lanes" = some (some (.ref f4))) (l4:K.lookup f4=some ⟨oc4,od4,.func (bw "lanes" "lanes" (jP qH) (jH qH) (j8 qH) .none kV4 dc4 pm4 an4 (.ref cL) ct4),sl4⟩) (c4:c6 K (.ref cL) "lanes" = true) (k4:bD K (.ref f4)=true) (hdL:PySem.W.codeHdIn K cL 142=true)
  (a5:gN K "way_of" wD)
  (a6:gN K "count_places" x6)
  (a7:gN K "fits" gJ)
  (a8:gN K "is_valley" xU)
  (a9:gN K "heights" yn)
  (a10:gN K "is_weather" zH)
  (a11:gN K "change" uS)
  (a12:gN K "is_round" zM)
  (a13:gN K "check_round" zn)
  (a14:gN K "check_told" zE)
  (a15:gM K CI "__init__" "Ice.__init__" qu)
  (a16:gM K CI "check_lane" "Ice.check_lane" xj)
  (a17:gM K CI "check_place" "Ice.check_place" x0)
  (a18:gM K CI "length" "Ice.length" zg)
  (a19:gM K CI "height" "Ice.height" zf)
  (a20:gM K CI "sky" "Ice.sky" yH)
  (a21:gM K CI "tell" "Ice.tell" y7)
  (a22:gM K CI "surge" "Ice.surge" zK)
  (a23:gM K CI "surges" "Ice.surges" xx)
  (a24:gN K "check_asked" zh)
  (a25:gN K "ride_by" yk)
  (a26:gN K "earliest" yC)
  (a27:gN K "span" QD)
  (a28:gN K "ridden" wE)
  (a29:gN K "life" Q0)
  (a30:gN K "parted" uH)
  (a31:gN K "way" Y2)
  (a32:gN K "rest" QF)
  (a33:gN K "_law_box" vZ)
  (a34:gN K "_law_mixed" zT)
  (a35:gN K "_law_take" yS)
  (a36:gN K "_law_far" vS)
  (a37:gN K "_law_weather" ze)
  (a38:gN K "_law_round" zd)
  (a39:gN K "_law_ground_drawn" qd)
  (a40:gN K "_law_reaches" qU)
  (a41:gN K "_law_roads" xA)
  (a42:gN K "_law_ground" zJ)
  (a43:gN K "_law_year" yP)
  (a44:gN K "_law_scene" xD)
  (a45:gN K "_law_made" yD)
  (a46:gN K "_law_spot" yV)
  (a47:gN K "_law_scene_copy" qM)
  (a48:gN K "_law_richer" zL)
  (a49:aN K mainGlobals "law" = some (some (.ref f49))) (l49:K.lookup f49=some ⟨oc49,od49,.func (bw "law" "law" (jP vI) (jH vI) (j8 vI) .none kV49 dc49 pm49 an49 cd49 ct49),sl49⟩) (c49:c6 K cd49 "law" = true) (k49:bD K (.ref f49)=true)
  (ec0:gE K "BadValley" C0)
  (ec1:gE K "BadRound" C1)
  (ec2:gE K "NoLane" C2)
  (ec3:gE K "BadYear" C3)
  (ec4:gE K "BadWeather" C4)
  (ec5:gE K "BadSurge" C5)
  (ec6:gE K "NoPlace" C6)
  (z0:aN K mainGlobals "len" = some none)
  (z1:aN K mainGlobals "range" = some none)
  (z2:aN K mainGlobals "isinstance" = some none)
  (z3:aN K mainGlobals "int" = some none)
  (z4:aN K mainGlobals "bool" = some none)
  (z5:aN K mainGlobals "str" = some none)
  (z6:aN K mainGlobals "list" = some none)
  (z7:aN K mainGlobals "tuple" = some none)
  (z8:aN K mainGlobals "min" = some none)
  (z9:aN K mainGlobals "max" = some none)
  (z10:aN K mainGlobals "all" = some none)
  (z11:aN K mainGlobals "zip" = some none)
  (z12:aN K mainGlobals "enumerate" = some none)
  (z13:aN K mainGlobals "sorted" = some none)
  (z14:aN K mainGlobals "sum" = some none)
  (z15:aN K mainGlobals "dict" = some none)
  (q0:aN K mainGlobals "MOST_REACHES" = some (some (.int 8 u0)))
  (q1:aN K mainGlobals "MOST_HEIGHTS" = some (some (.int 12 u1)))
  (q2:aN K mainGlobals "GREATEST_HEIGHT" = some (some (.int 99 u2)))
  (q3:aN K mainGlobals "MOST_LANES" = some (some (.int 6 u3)))
  (q4:aN K mainGlobals "LONGEST_LANE" = some (some (.int 30 u4)))
  (q5:aN K mainGlobals "HIGHEST_LINE" = some (some (.int 100 u5)))
  (q6:aN K mainGlobals "MOST_HANDS" = some (some (.int 9 u6)))
  (q7:aN K mainGlobals "MOST_ROWS" = some (some (.int 12 u7)))
  (q8:aN K mainGlobals "LAST_TOLD" = some (some (.int 99 u8)))
  (q9:aN K mainGlobals "LAST_ASKED" = some (some (.int 10000000000000000000000000000000000000000 u9)))
  (q10:aN K mainGlobals "GREATEST_SURGE" = some (some (.int 9 u10)))
  : ∃fd:FuncData,(∀(s:Shared) (v:ae),nu s fd ⟨[v],[]⟩ [("_law_script",v)])/\∀base:Heap,K.In base->base.Ns mainGlobals mg->Bm mg base->FnOk l.prog w K mg base CX0 11 fa fd ["_law_script"] (JR K 142):=by
 have e:=hfa.symm.trans (bf X G a49)
 cases e
 have nb:Nb2 mg:={ b_len:=b8 X G z0,b_range:=b8 X G z1,b_isinstance:=b8 X G z2,b_int:=b8 X G z3,b_bool:=b8 X G z4,b_str:=b8 X G z5,b_list:=b8 X G z6,b_tuple:=b8 X G z7,b_min:=b8 X G z8,b_max:=b8 X G z9,b_all:=b8 X G z10,b_zip:=b8 X G z11,b_enumerate:=b8 X G z12,b_sorted:=b8 X G z13,b_sum:=b8 X G z14 }
 have b_dict:=b8 X G z15
 have g_MOST_REACHES:=bf X G q0
 have g_MOST_HEIGHTS:=bf X G q1
 have g_GREATEST_HEIGHT:=bf X G q2
 have g_MOST_LANES:=bf X G q3
 have g_LONGEST_LANE:=bf X G q4
 have g_HIGHEST_LINE:=bf X G q5
 have g_MOST_HANDS:=bf X G q6
 have g_MOST_ROWS:=bf X G q7
 have g_LAST_TOLD:=bf X G q8
 have g_LAST_ASKED:=bf X G q9
 have g_GREATEST_SURGE:=bf X G q10
 have e_BadValley:=bf X G ec0.e
 have x_BadValley:=ec0.x
 have e_BadRound:=bf X G ec1.e
 have x_BadRound:=ec1.x
 have e_NoLane:=bf X G ec2.e
 have x_NoLane:=ec2.x
 have e_BadYear:=bf X G ec3.e
 have x_BadYear:=ec3.x
 have e_BadWeather:=bf X G ec4.e
 have x_BadWeather:=ec4.x
 have e_BadSurge:=bf X G ec5.e
 have x_BadSurge:=ec5.x
 have e_NoPlace:=bf X G ec6.e
 have x_NoPlace:=ec6.x
 have cl_Ice:Cls K CI:=⟨pgI,hdI,poI,saI⟩
 have T_Ice:IceC K CI:=⟨cl_Ice,na0,na1,na2,na3,na4⟩
 refine ⟨bw "law" "law" (jP vI) (jH vI) (j8 vI) .none kV49 dc49 pm49 an49 cd49 ct49,λs v=>.of_eq rfl,λbase hKb _ hBm=>?_⟩
 have CH:=PySem.W.codeHd_of_K hKb hdL
 have z:Zt l.prog w K mg base:=⟨X,G⟩
 have c_leads_on:=a1.cal z (by walk_at "2") (Jv)
 have c_is_reach:=a2.cal z (by walk_at "2") (JF nb g_MOST_HEIGHTS g_GREATEST_HEIGHT c_leads_on)
 have c_way_down:=a3.cal z (by walk_at "2") (JB nb)
 have c_lanes:Cal l.prog w K mg base 5 "lanes" ["reaches"] (vf K 142):=Cal.mkC (st:=qH) X G a4 l4 c4 k4 (by walk_at "1") (Zs nb c_way_down CH hBm l4 c4)
 have c_way_of:=a5.calX z (by walk_at "2") (Z6 nb e_NoLane x_NoLane c_lanes)
 have c_count_places:=a6.cal z (by walk_at "2") (uw nb)
 have c_fits:=a7.cal z (by walk_at "2") (YA nb g_MOST_LANES g_LONGEST_LANE c_count_places)
 have c_is_valley:=a8.cal z (by walk_at "1") (gf nb g_MOST_REACHES c_is_reach c_lanes c_fits)
 have c_heights:=a9.calX z (by walk_at "2") (Qg nb c_way_of)
 have c_is_weather:=a10.cal z (by walk_at "1") (wQ g_HIGHEST_LINE g_MOST_HANDS)
 have c_change:=a11.cal z (by walk_at "2") (XN)
 have c_is_round:=a12.cal z (by walk_at "1") (Jp nb.toNb g_MOST_ROWS c_is_weather)
 have c_check_round:=a13.calX z (by walk_at "1") (wa nb e_BadRound x_BadRound c_is_round)
 have c_check_told:=a14.calX z (by walk_at "1") (wO g_LAST_TOLD e_BadYear x_BadYear)
 have c_Ice:=a15.mak z mkI kcI aCI (by walk_at "3") (vL nb T_Ice e_BadValley x_BadValley c_is_valley c_check_round c_lanes c_heights.cal)
 have c_Ice__check_lane:=a16.calX z (by walk_at "2") (yF nb T_Ice e_NoLane x_NoLane)
 have c_Ice__check_place:=a17.calX z (by walk_at "3") (yr nb T_Ice e_NoPlace x_NoPlace cl_Ice c_Ice__check_lane)
 have c_Ice__length:=a18.calX z (by walk_at "2") (wF nb T_Ice cl_Ice c_Ice__check_lane)
 have c_Ice__height:=a19.calX z (by walk_at "3") (uG nb T_Ice cl_Ice c_Ice__check_place)
 have c_Ice__sky:=a20.cal z (by walk_at "2") (JK nb T_Ice)
 have c_Ice__tell:=a21.calX z (by walk_at "3") (hU nb T_Ice e_BadWeather x_BadWeather c_check_told c_is_weather)
 have c_Ice__surge:=a22.calX z (by walk_at "4") (wM nb T_Ice cl_Ice g_GREATEST_SURGE e_BadSurge x_BadSurge c_Ice__check_lane c_check_told)
 have c_Ice__surges:=a23.calX z (by walk_at "2") (w5 nb T_Ice cl_Ice c_Ice__check_lane)
 have c_check_asked:=a24.calX z (by walk_at "1") (wd g_LAST_ASKED e_BadYear x_BadYear)
 have c_ride_by:=a25.cal z (by walk_at "2") (Qo nb)
 have c_earliest:=a26.cal z (by walk_at "2") (gX nb)
 have c_span:=a27.calX z (by walk_at "3") (YK cl_Ice c_Ice__surges c_Ice__length c_earliest)
 have c_ridden:=a28.calX z (by walk_at "3") (Xr cl_Ice c_Ice__surges c_check_asked c_ride_by)
 have c_life:=a29.calX z (by walk_at "3") (YO nb b_dict cl_Ice c_span c_Ice__surges c_ride_by c_change c_Ice__sky c_Ice__height)
 have c_parted:=a30.calX z (by walk_at "4") (XX cl_Ice c_Ice__check_place c_ridden c_life)
 have c_way:=a31.calX z (by walk_at "4") (Uh nb c_parted)
 have c_rest:=a32.calX z (by walk_at "4") (YD c_way)
 have c_law_box:=a33.cal z (by walk_at "1") (U5 nb.toNb)
 have c_law_mixed:=a34.cal z (by walk_at "2") (ZX)
 have c_law_take:=a35.cal z (by walk_at "2") (Yz nb.toNb c_law_mixed)
 have c_law_far:=a36.cal z (by walk_at "1") (Ul nb c_law_take)
 have c_law_weather:=a37.cal z (by walk_at "1") (Qx c_law_take)
 have c_law_round:=a38.cal z (by walk_at "1") (Yj nb.toNb c_law_take c_law_weather)
 have c_law_ground_drawn:=a39.cal z (by walk_at "3") (uv nb c_law_take)
 have c_law_reaches:=a40.cal z (by walk_at "1") (Qk nb c_law_take c_law_ground_drawn)
 have c_law_roads:=a41.cal z (by walk_at "1") (ZW nb)
 have c_law_ground:=a42.cal z (by walk_at "2") (XQ)
 have c_law_year:=a43.cal z (by walk_at "1") (YJ c_law_take)
 have c_law_scene:=a44.cal z (by walk_at "1") (ZB nb c_law_take c_law_reaches c_law_round c_law_ground c_law_roads c_law_year c_law_weather)
 have c_law_made:=a45.cal z (by walk_at "1") (YY nb cl_Ice c_Ice c_Ice__tell c_Ice__surge)
 have c_law_spot:=a46.cal z (by walk_at "2") (Yr nb c_law_take)
 have c_law_scene_copy:=a47.cal z (by walk_at "1") (YG nb b_dict)
 have c_law_richer:=a48.cal z (by walk_at "2") (XI nb c_law_take c_law_scene_copy)
 exact Vx nb c_law_box c_law_take c_law_scene c_law_made c_law_richer c_law_spot c_law_year c_law_far c_rest (yG (st:=vI) l49 c49 k49)
end K28
end
open PySem PySem.W PyProof.Rows
set_option maxRecDepth 100000 in
set_option maxHeartbeats 0 in
theorem PySem.Challenge.cw_firnfall_k28_whole_more_ice_never_lets_o_holds : PySem.Challenge.rw_firnfall_k28_whole_more_ice_never_lets_o.Holds := by
 w_on
 refine holds_law HO.ws λsaid=>?_
 refine holds_open (q:=HO.view) (loose:=HO.loose) (N:=9000) (Xt:=HO.xt) (XP:=XL HO.view [])
  (Yf:=Hook.obs (mI HO.frag.heap_1 HO.asL HO.asE [142])) (Ya:=Hook.val (mI HO.frag.heap_1 HO.asL HO.asE [142])) (YP:=Hook.says (mI HO.frag.heap_1 HO.asL HO.asE [142]))
  HO.left (Hook.of (mI HO.frag.heap_1 HO.asL HO.asE [142])) (Hook.keeps (mI HO.frag.heap_1 HO.asL HO.asE [142]))
  (λs e=>xl_of s (Bool.and_eq_true_iff.mp e).1) XL.keeps rfl rfl rfl
  (λs e=>recFacts_of (Bool.and_eq_true_iff.mp e).2) rfl
  (by first | assumption | decide +kernel) (by decide +kernel) ⟨rfl,rfl,rfl,rfl,rfl,by decide +kernel⟩ ?hw ?hc
 (case hw=>w_witness2)
 k_fill
 refine L2.YF (l:=PySem.Challenge.rw_firnfall_k28_whole_more_ice_never_lets_o) 11 144 142 ⟨rfl,⋯,⋯⟩ rfl rfl (λw h Y=>⟨PySem.W.km_in_of Y,PySem.W.km_tabs_of Y 142 (by simp)⟩) (λ_=>by kernel_rfl) (λ_=>by kernel_rfl) ?F
 case F =>
  intro w mg fa h KX G hmg
  refine' K28.VX KX G hmg ..
  all_goals try first | refine' L2.gN.mk ?_ ?_ ?_ ?_ | refine' L2.gM.mk ?_ ?_ ?_ ?_ ?_ | refine' L2.gE.mk ?_ ?_ ?_
  all_goals try show _=_
  all_goals try k_is
  all_goals kernel_rfl
