import PyProof.Rows.All
import Wide.All
import OpenK.AllK
import Wide.FinOn
import Lean
import PyProof.EqAt
import PyProof.EqKinds
import PyProof.TupleCall
import PyProof.AttrMissHeap
import KE.KDictOf
import OpenK.KLine
import KE.KNestM
import PySem.Challenge.RW_firnfall_k36_falls_that_can_have_brought
set_option Elab.async false
set_option linter.all false
set_option maxRecDepth 100000
set_option maxHeartbeats 0
open And renaming intro->ik
open Array renaming getD_eq_getD_getElem?->av,length_toList->aG,size_map->aT,getElem?_eq_getElem->aZ,getElem_toList->bY,size_reverse->c6,toList_reverse->cf,toList_extract->cU,map_reverse->dB,toList_map->eR,size_extract->ft,reverse_reverse->fJ,getElem_extract->fK,push_eq_append->fT,reverse_append->fV,map_extract->iH,getElem?_eq_none->iJ,getElem?_setIfInBounds_ne->iN,toList_append->lK,append_assoc->lS,getD->lY,forIn_toList->pU,mk->pY
open Bool renaming false_ne_true->aq,and_eq_true->bt,false_eq_true->cF,true_and->eL,eq_iff_iff->fA,and_true->pI,and_false->tj,or_false->tT
open False renaming elim->bM
open ForIn renaming forIn->mU
open ForInStep renaming yield->cq
open Int renaming toNat_natCast->cP,emod_lt_of_pos->dZ,emod_nonneg->fC,le_refl->l9,zero_add->nR,le_of_lt->rV
open List renaming getElem?_eq_getElem->ae,length_map->ag,getD_eq_getElem?_getD->ao,length_append->ar,size_toArray->au,mem_of_getElem?->aC,map_append->aD,getElem?_map->aH,mem_append_right->aJ,mem_cons_of_mem->aK,mem_cons_self->aM,map_cons->aQ,range->aW,length_take->aY,take_length->bg,append_nil->bj,length_cons->bo,Nodup->bp,length_singleton->bu,take_add_one->bJ,filter_append->bK,getElem?_cons_succ->bL,all_eq_true->bP,length_range->bQ,append_assoc->bR,length_filter_le->bU,mem_map_of_mem->bV,mem_append_left->cc,drop_eq_getElem_cons->cj,map_map->cz,filter_cons_of_neg->cB,filter_cons_of_pos->cC,getElem?_drop->cD,getElem_mem->cJ,drop_eq_nil_of_le->cM,lookup_cons->cR,reverse->de,range_succ->dg,pairwise_singleton->dw,getElem_map->dR,replicate->dU,getElem?_append_right->dW,getElem?_append_left->ee,mem_of_mem_take->eF,mem_cons->eN,map_congr_left->eP,length_drop->eQ,nodup_nil->eV,lookup->eZ,drop_of_length_le->fj,take_of_length_le->fk,find?_cons->fB,filter_nil->fD,length_replicate->fG,reverse_reverse->fS,mem_of_mem_drop->fU,not_mem_nil->fY,any_cons->i6,pairwise_cons->ie,filter->ij,all_map->iC,length_pos_of_mem->iD,getElem_take->iF,getElem_drop->iG,take_zero->iI,getElem?_set->iL,take_append_drop->iQ,pairwise_reverse->iR,of_mem_zip->lp,length_set->lq,forIn_cons->lu,filterMap_cons->lF,length_reverse->lJ,getElem?_range->lL,map_nil->lM,getElem?_concat_length->lP,pairwise_iff_getElem->mf,take_sublist->ml,reverse_cons->mm,ext_getElem?->mw,drop_sublist->my,reverse_perm->mz,flatten_cons->mB,pairwise_map->mC,Pairwise->mK,getElem?_replicate->mT,ext_getElem->mV,zipIdx_cons->mW,getElem?_set_self->nh,toArray->nM,find?_cons_of_pos->nU,find?_cons_of_neg->nW,flatMap_singleton->nX,nil_append->oh,perm_append_comm->oq,eq_nil_or_concat->oz,concat_eq_append->oA,pairwise_flatMap->oB,getElem?_set_ne->oE,length->oI,map_id->oR,replicate_succ'->oW,flatMap_append->pC,all_cons->pE,sum_cons->pH,reverse_take->rQ,map_snd_zip->sr,map_reverse->sA,filter_cons->sD,mem_flatMap->sF,zipIdx_nil->sP,length_nil->sQ,forIn_nil->tJ,drop_zero->tO,map->Ai
open List.Pairwise renaming nil->fM
open List.Perm renaming refl->iB,append_left->oo,cons_inv->pW
open Nat renaming le_refl->ak,zero_le->aB,ne_of_lt->aF,le_trans->aN,lt_of_lt_of_le->aX,lt_succ_of_lt->bW,lt_of_le_of_lt->c5,lt_irrefl->cX,zero_add->dq,ne_of_gt->dN,not_lt_zero->eC,le_add_right->eU,succ_le_succ->eW,le_succ->fc,le_of_lt->ff,lt_succ_self->iT,add_sub_cancel_left->mZ,le_of_eq->rj,add_zero->rR,zero_min->rW
open Ne renaming symm->cV
open Option renaming toList_some->cn,isSome_map->mq,getD_none->sj
open Option.some renaming inj->bB
open Or renaming inl->aR,inr->lr
open Prod renaming snd->Ad
open PyProof.Rows renaming wpS_bind->aA,wpS_pure->aO,seqObj->b7,wpS_forRange->c9,boot_list->ck,callWith_type1->cx,wpS_mono->cA,listUpdate_at->cH,boot_isinstance->cI,pendingOf->cK,elem'->cT,SortKind->di,wpS_modify->dm,IntsAre->dv,boot_tuple->dC,get?_update_seq->dJ,seqEpoch_at->dQ,failedOf->eS,reverseSlice'->fF,arrOf->fO,wpS_get->fP,boot_bool->iK,slot_tuple_getitem->iM,AllBare->iU,entry_list_sort->ly,listItems_at->lN,size_push'->lZ,slot_list_sort->m6,wpS_lift->md,setPending->me,boot_sorted->mn,envOfC->mE,subscriptTail->mF,subscriptTail_builtinR->nA,plain_sorted->nJ,entry_sorted->nK,list_sort_plain->og,boot_int->ou,boot_str->ow,kind_sorted->oN,args_list_sort->oO,boot_max->oX,getElem?_mirror_all->px,Subscript_->pR,args_sorted1->rK,collect_list->rM,minRun'->rS,boot_all->rT,getElem?_bubble->sN,boot_range->t6,bubble->tE,keyLt'->tF,gallopOf->tN,tail_any->Ac,keyKind'->Ag,boot_sum->Aj,boot_min->Ak,Call_->Am,ltAt'->An
open PyProof.Rows.KeyOrd renaming kle_refl->dI,kle_of_klt->fN,kle_trans->fX,kle_antisymm->lI
open PyProof.Rows.SortSt renaming mk'->tM
open PySem renaming wpAny_bind->aa,Value->ai,wpAny->ax,model->ay,starEach->aU,boot_len->b9,wpAny_mono->bf,World->bx,Around->bC,sizeLine_eq->bE,wpAny_holding->bZ,wpAny_field->c7,compareOp->cg,wpAny_loadPart'->cu,rawInt->cv,wpAny_truthy_bool->cw,wpAny_newObj_type->cO,Paired->cW,foldedSetIterable->cY,bindArgs->d5,wpAny_rule->d9,backTo->dh,wpAny_call_entry->dj,wpAny_seqItems->dr,wpAny_callSpecial?_slot->dA,letOwnedTupleGo->dG,mem_of_lookup->dM,codeAny->dO,wpAny_standAt->dP,wpAny_Call_Name_kw->dS,wpAny_setField_rec->dY,importedModules->ez,wpAny_passesOwn->eA,codeAny_mono->eE,sysModules->eG,wpAny_newList->eJ,IsPair->eM,tupleKind_room_in1->fq,behindInMarks->fE,wpAny_pyIter_list->fL,keywordEach->fQ,attributeBase->i5,wpAny_comprehension_free->i7,holding->i8,assignEach->i9,sliceBounds->ig,bootBuiltins->il,standAt->ip,NameKind->ir,wpAny_newTuple->iA,wpAny_setField->iE,binaryOp->iX,wpAny_updateSeq_pair->iZ,wpAny_execs_nil->lg,assign->lh,pyNext->lj,codeAny_builtin->lx,swapsWith->lQ,noteFrame->lR,backToKw->lV,wpAny_newFunctionEnv_cells->lX,IsZip->m9,unsupported->mx,wpAny_getItem_list_slice->mG,plainId_quiet->mH,wpAny_attempt->mI,wpAny_onRaise->mJ,wpAny_eqBool_int->mM,tupleKind->mO,wpAny_execs_cons->mP,getMethod->mS,OsState->n6,builtinsNs->nc,wpAny_pyNext_list_item->ni,wpAny_call->nj,Keyword->nk,typeLookup->nu,getItem->nv,call_meets->nE,codeAny_compStart_list->nH,wpAny_typeOf->nN,theTreesLotGoes->oa,wpAny_isTrue_Compare1->oj,wpAny_pyNext_list_end->om,wpAny_loadName_local->oF,pyIter->oG,subscripted->oJ,wpAny_newFunctionEnv->oK,wpAny_letGo->oQ,wpAny_of_eq->oS,ZipApart->oU,leaving->pe,callerA->pf,valueAt->ph,wpAny_loadName_cell->pq,wpAny_pyIter_tuple->pN,wpAny_pyIter_range->pO,Result->pQ,closureFor->pS,checkCount->pT,getattributeRaised->pX,Within->pZ,wpAny_assign_Name->rg,callWith->rm,seqIndex_neg->rG,codeAny_loop->rH,compTurn->rJ,wpAny_pyIter_enum->rN,inplaceOp->se,cellsFrom->si,wpAny_pyIter_zip->sv,wpAny_Dict_empty->sx,fillsInplaceSlot->sy,IsRangeIter->sH,seqIndex_of->sJ,wpAny_noted->sL,atKey->sM,BindsTo->sU,newList->sV,wpAny_Name->sZ,bindL->t7,bindC->tf,compEnvC->tm,newFunctionEnv->tD,field->tH,firstArgMember->tI,rangeSize_one->tR,intBits_le_64->tS,call_list_seq->tU,eval_ListComp->tV,evalPart_none->tW,evalPart_some->tX,treeTable->A0,storeName->A1,IsPart->A5,typeOf->A6,cellOf->A7,stored->A8,compPost->Ae,Params->Al
open PySem.Around renaming under_plainId->fR,under->rA
open PySem.Builtin.Dict renaming updateFrom->mY
open PySem.Builtin.List renaming listTooLong->eI
open PySem.Builtin.Range renaming rangeSize->mR
open PySem.Builtin.Slice renaming slicePlaces->ef,sliceAdjust->i0,sliceApplied->m7
open PySem.Builtin.SmallTypes renaming nextOf->bH,ownedTupleIsFree->cQ,ownedTupleHandOut->i4
open PySem.Builtin.Tuple renaming tupleExact->eK
open PySem.Calls renaming call_function_entry->fZ,evalArgs_plain->iY,Name_function_global->lT,spliced_cons->lW,callWith_builtin->nB,spliced_nil->rE
open PySem.Code renaming isFrame->rC
open PySem.Data renaming cell->mQ,fields->oH
open PySem.EntryCells renaming newEntry->pA
open PySem.Env renaming kindOf->tu
open PySem.F renaming slot_list_append->bz,type_list_append->bA,plainAttrs_list->bF,excBase_ValueError->bT,slot_tuple_iterator_next->dX,slot_dict_get->iP,args_tuple_iterator_next_1->lC,slot_zip_next->lE,entry_tuple_iterator_next->lO,args_dict_get_3->mX,entry_dict_get->nQ,slot_list_lt->oM,args_zip_next_1->rP,entry_zip_next->su
open PySem.Fin renaming done->oP
open PySem.Flow renaming ret->Ah
open PySem.Heap renaming get?_push_of_some->ah,lt_size->aw,get?_push_size->aE,get?_update_ne->bN,get?_push_ne->bX,size_update->cS,size_push->cZ,get?_update_other->d8,SameBut->fg,get?_update_self->fH,MadeExcOf->oV
open PySem.Heap.DictOf renaming new->sR
open PySem.Heap.IsSliceOf renaming new->pV
open PySem.Heap.SameBut renaming update->pz
open PySem.IsRange renaming new->sI
open PySem.NameKind renaming free->br,cell->iV
open PySem.Obj renaming mapSeq->aS,data_mapFields->fm,isFreed_of_fields->fI,mapFields->iW,cls_mapFields->rO
open PySem.Paired renaming length->aP,snoc->cE
open PySem.PassesOwn renaming never->bh
open PySem.PyData renaming canLayAll0->mD,int->nO,strOk->nZ,depthAll->oi,canLay0->oY,depth->rX
open PySem.SeqAt renaming shaped->nI
open PySem.SeqAt.EqAt renaming int_str->pL,str_int->pM
open PySem.Str renaming ofString->aj
open PySem.Value renaming none->aV,ref->b8,type->iS,isInt_shape->mh,int->mL,bool->n9,str->oZ,isStrOf_shape->pj,float->sG,isStrOf->tQ,builtin->tY
open PySem.W renaming Frag->af,kas_item->aI,nsIn->bb,mg_none_of->bD,mg_of->bG,kitOne->bI,fnOf->bO,findIn->bS,keepIn->cp,kia_one->cG,emptyDict->cN,codeIn->d6,boot_heap->df,instObj->dE,excIn->eO,callWith_K->fh,plainGet->fW,hasDictIn->iq,cellsFrom_some->iu,kas_rev->iz,methodCall_KW->iO,plainGet_of->lH,lookIn->lU,methodObj->mi,plainOver->mj,takerIn->o8,makesIn->o9,boot_drawn->pJ,namesBound->pK,isFn->rh,kitx_list->rn,kitx_dict->rp,staticsOk->rY,kmHook->rZ,handedIn->sf,OpenLaw->sO,topStub->sS,tabObj->sW,gensDone->sX,laidKept->sY,kat_snds->tG,funFrames_hide->tK,kas_swaps_map->tZ,kas_tail3->A3,topRun->A4,openSeen->A9,openGood->Aa,openEnds->Ab,kas_sort->Af
open PySem.W.Looks renaming of_pure->pG
open PySem.W.OpenLaw renaming row->oC
open StateT renaming run_pure->lA
open Sum renaming inr->bw,inl->fe
open Sum.inl renaming inj->eX
open True renaming intro->dH
open PySem PySem.Spec PyProof.Rows
local macro_rules | `(∅)=>`(by omega)
local macro_rules | `(⋯)=>`(by decide)
set_option hygiene false
local macro_rules | `(↥0)=>`((jt "slopes" (V.ref acc) (jt "cycle" (V.ref cy) (jt "valley" (V.ref va) []))))
local macro_rules | `(↥1)=>`(((s.heap.push (b7 "list" #[] 0)).update s.heap.objs.size (aS (· ++ its.toArray))))
local macro_rules | `(↥2)=>`(((h0.update a (aS λ_=>(#[]:Array ai))).push (b7 "tuple" its.toArray 0)))
local macro_rules | `(↥3)=>`((by walk_at "z"))
local macro_rules | `(↥4)=>`((by walk_at "w"))
local macro_rules | `(↥5)=>`((.dK [((.inr "reaches",.ref p):Key×V),(.inr "rows",.ref q),(.inr "single",.ref g),(.inr "grounds",.ref gl)]))
local macro_rules | `(↥6)=>`((ay X.prog X.w))
local macro_rules | `(↥7)=>`((upd (upd Hb g (.dK [])) sd (.dK (xh [] [(.inr "reaches",.ref p),(.inr "rows",.ref q),(.inr "single",.ref g)]))))
local macro_rules | `(↥8)=>`((xC elt tg iter tg2 iter2 ifs ifs2 scope pos))
local macro_rules | `(↥9)=>`((s.heap.push { cls:=.type "range",data:=.fields #[.int lo t,.int hi u,.int 1 v] }))
local macro_rules | `(↥10)=>`((j0 (pv 0) (j0 j7 j5)))
local macro_rules | `(↥11)=>`((X.block scope G H2.objs.size N s H U))
local macro_rules | `(↥12)=>`((s.heap.objs.size+1))
local macro_rules | `(↥13)=>`((∀b o,s.heap.get? b=some o->h'.get? b=some o))
local macro_rules | `(↥14)=>`((upd (upd M ye (HO.dK [])) p (HO.ins C dx (jt "years" (V.ref ye) ↥0))))
local macro_rules | `(↥15)=>`((Yc h'.objs.size (uR (X.env.qual ++ "<lambda>") params body scope ((X.mg "__name__").getD .none) c' j)))
local macro_rules | `(↥16)=>`((g.slopes.length:Int))
local macro_rules | `(↥17)=>`((b7 "list" its.toArray 0))
local macro_rules | `(↥18)=>`((.ref s.heap.objs.size))
local macro_rules | `(↥19)=>`((upd H5 acc (.lst (ys++[v]))))
local macro_rules | `(↥20)=>`((HO.ins C dx (jt "cycle" (V.ref cy) (jt "valley" (V.ref va) []))))
local macro_rules | `(↥21)=>`((g.slopes.getD l.toNat []))
local macro_rules | `(↥22)=>`((jp (jg K) (pv 0) j7 (λ_ _=>rfl)))
local macro_rules | `(↥23)=>`((ez PySem.Challenge.pw_firnfall_k36_falls_that_can_have_brought.main.body))
local macro_rules | `(↥24)=>`((by walk_at "2"))
local macro_rules | `(↥25)=>`((jM I q (by simp)))
local macro_rules | `(↥26)=>`((upd (upd H Pt (.tbl #[cv pos.line,cv pos.col,.ref c'])) c' (Z8 c' (X.env.qual ++ "<lambda>"))))
local macro_rules | `(↥27)=>`((.inr "reaches",.ref p))
local macro_rules | `(↥28)=>`((pa.map (aI it)))
local macro_rules | `(↥29)=>`((pb.map (aI it)))
local macro_rules | `(↥30)=>`((x == ("__debug__" : Str)))
local macro_rules | `(↥31)=>`((by decide +kernel))
local macro_rules | `(↥32)=>`((λfin s'=>∃v,fin = .done (.ret v)/\Q v s'))
local macro_rules | `(↥33)=>`((λvs H Q E h=>?_))
local macro_rules | `(↥34)=>`((je j (m.mono ⋯) rfl (j0 (pv 0) (j0 (jp (jg K) (jB (j0 j7 (j0 j7 j5))) (je j (m.mono ⋯) rfl ↥10) (λ_ _=>rfl)) j5))))
local macro_rules | `(↥35)=>`((X.block scope G H2.objs.size N s H j))
local macro_rules | `(↥36)=>`((∀σ2 H2,U σ2 H2->∃m',m'<m/\W (i+1) m' σ2 H2))
local macro_rules | `(↥37)=>`((by rw [beq_iff_eq];exact z))
local macro_rules | `(↥38)=>`((λ_ _ _ _ _=>jQ))
local macro_rules | `(↥39)=>`((false,eval e X.env))
local macro_rules | `(↥40)=>`((ix.map λi=>its.getD i aV))
local macro_rules | `(↥41)=>`((its.toArray.zip its.toArray))
local macro_rules | `(↥42)=>`((bf (hk ∅ h6 keep6 (λκ' s'=>κ'=κ/\s'={ s with heap:=h6 }) ⟨rfl,rfl⟩) (λκ' s' q=>?_) λ_ _ x=>x.elim))
local macro_rules | `(↥43)=>`((.ListComp elt [⟨tg,iter,ifs,0⟩] scope pos))
local macro_rules | `(↥44)=>`((by intro z;cases z))
local macro_rules | `(↥45)=>`((.Slice none none (some (.UnaryOp .USub (.Constant (.int 1) j3 p3) p4)) p2))
local macro_rules | `(↥46)=>`((wpAny_pure ?_))
local macro_rules | `(↥47)=>`((j0 (pv 1) j5))
local macro_rules | `(↥48)=>`((.Call (.Attribute o m apos) (e::es) [] pos))
local macro_rules | `(↥49)=>`((.inr "rows",.ref q))
local macro_rules | `(↥50)=>`((Addr×List (Key×V)))
local macro_rules | `(↥51)=>`((je j (d.mono ⋯) rfl ↥10))
local macro_rules | `(↥52)=>`((ha pos pins s σ H _ I h))
local macro_rules | `(↥53)=>`((j0 (pv 0) j5))
local macro_rules | `(↥54)=>`((X.block scope G C N s H ex))
local macro_rules | `(↥55)=>`((X.block scope j C N s H ex))
local macro_rules | `(↥56)=>`((bf h₂ (λ_ s₃ h₃=>aa (bf h₃ (λok s₄ h₄=>?_) λ_ _ h'=>h'.elim)) λ_ _ h'=>h'.elim))
local macro_rules | `(↥57)=>`(((.inl z.1,f z.2):Key×V))
local macro_rules | `(↥58)=>`((gd.length:Int))
local macro_rules | `(↥59)=>`((oC PySem.Challenge.rw_firnfall_k36_falls_that_can_have_brought))
local macro_rules | `(↥60)=>`((by with_unfolding_all rfl))
local macro_rules | `(↥61)=>`((X.env.qual ++ "<lambda>"))
local macro_rules | `(↥62)=>`((EP X pins σ Q))
local macro_rules | `(↥63)=>`((by have:=Array.perm_iff_toList_perm.mp hP;simpa using this))
local macro_rules | `(↥64)=>`((by walk_at "1"))
local macro_rules | `(↥65)=>`((j0 (pv 2) j5))
local macro_rules | `(↥66)=>`((ms.map (·.1)))
local macro_rules | `(↥67)=>`((jp (jg K) (xo K (pv 0)) (pv 1) (λ_ _=>rfl)))
local macro_rules | `(↥68)=>`((b7 "list" #[] 0))
local macro_rules | `(↥69)=>`((l<0\/ ↥16<=l->E (.ref CN) none H))
local macro_rules | `(↥70)=>`((dh pos (aU es X.env)))
local macro_rules | `(↥71)=>`((aS λ_=>(#[]:Array ai)))
local macro_rules | `(↥72)=>`((A.under (.builtin "type.__call__" ⟨.ref C::us,j⟩)))
local macro_rules | `(↥73)=>`((∀G H',N G H'->∃I,I<m/\W (i+1) I G H'))
local macro_rules | `(↥74)=>`((bO x x (qf st) (jS st) (ja st) .none kV doc pm U j I))
local macro_rules | `(↥75)=>`((.Call (.Name x p) (e::es) [] pos))
local macro_rules | `(↥76)=>`((∃m,W 0 m σ H))
local macro_rules | `(↥77)=>`((HO.ins C dx (jt "valley" (V.ref va) [])))
local macro_rules | `(↥78)=>`((bw (aj "reaches"):Key))
local macro_rules | `(↥79)=>`((.inr "single",.ref j))
local macro_rules | `(↥80)=>`((rZ HO.frag.heap_1 HO.asL HO.asE [142]))
local macro_rules | `(↥81)=>`((jx (show (bw (aj "single"):Key)≠bw (aj "grounds") by decide +kernel)))
local macro_rules | `(↥82)=>`((k == br && env.scope.kind == .function && env.kindOf n == some .cell))
local macro_rules | `(↥83)=>`((c == br && env.scope.kind == .function && env.kindOf n == some .cell))
local macro_rules | `(↥84)=>`((.frz o (.dK kvs)))
local macro_rules | `(↥85)=>`((ns.map (·.1)))
local macro_rules | `(↥86)=>`((jx (show (bw (aj "rows"):Key)≠bw (aj "grounds") by decide +kernel)))
local macro_rules | `(↥87)=>`((pa.getD (pa.size-1) 0))
local macro_rules | `(↥88)=>`((by rw [z];exact beq_self_eq_true _))
local macro_rules | `(↥89)=>`(((bN _ _ _ _ (aNew b o q)).trans (keep b o q)))
local macro_rules | `(↥90)=>`((dP (aa (bf (turn n s hI) (λr s₁ h₁=>?_) λ_ _ h'=>h'.elim))))
local macro_rules | `(↥91)=>`((λz=>nomatch z))
local macro_rules | `(↥92)=>`((by walk_at "3"))
local macro_rules | `(↥93)=>`((List Key×Addr×ai))
local macro_rules | `(↥94)=>`((by simp;omega))
local macro_rules | `(↥95)=>`((aW its.length))
local macro_rules | `(↥96)=>`((iA ?_ (by show its.length<=_;rw [bE];omega)))
local macro_rules | `(↥97)=>`(((ju rs).length:Int))
local macro_rules | `(↥98)=>`((sS PySem.Challenge.pw_firnfall_k36_falls_that_can_have_brought))
local macro_rules | `(↥99)=>`((jp (ql K) (pv 0) j7 (λ_ _=>rfl)))
local macro_rules | `(↥100)=>`((jW (qk J) (pv 0) jC (λ_ _=>rfl)))
local macro_rules | `(↥101)=>`((jp (ql K) (pv 6) j7 (λ_ _=>rfl)))
local macro_rules | `(↥102)=>`((∀x c,X.env.cells.lookup x=some c->c≠b))
local macro_rules | `(↥103)=>`((cH ho rfl ?_ (by rw [au,bE];omega) (aB _)))
local macro_rules | `(↥104)=>`((.tup [.int l,.int n,.int a,.int z,.str r]))
local macro_rules | `(↥105)=>`((jf (ji K) rfl nb.b_len b9 ↥53))
local macro_rules | `(↥106)=>`((∀w∈c.ws,1<=(jc c.rs w).length/\(jc c.rs w).length<=30))
local macro_rules | `(↥107)=>`((G pins s σ H _ I h))
local macro_rules | `(↥108)=>`((j pins s σ H _ I h))
local macro_rules | `(↥109)=>`((λw b=>vo c d r fs w (by simpa using b)))
local macro_rules | `(↥110)=>`((∀r∈rs,r.2.length<=100))
local macro_rules | `(↥111)=>`((wpAny_pure (wpAny_pure ⟨_,rfl,?_⟩)))
local macro_rules | `(↥112)=>`((Addr×List (Int×Int)))
local macro_rules | `(↥113)=>`((λb o q=>(bN _ _ _ _ (aNew b o q)).trans (keep6 b o q)))
local macro_rules | `(↥114)=>`((tF κ (its.getD i aV) (its.getD j aV)))
local macro_rules | `(↥115)=>`((jx (show ↥78≠bw (aj "grounds") by decide +kernel)))
local macro_rules | `(↥116)=>`((.ins C dx fs))
local macro_rules | `(↥117)=>`((ns.map V.int))
local macro_rules | `(↥118)=>`((b7 "list" #[] e1))
local macro_rules | `(↥119)=>`((·.setIfInBounds 1 (b8 g1.objs.size)))
local macro_rules | `(↥120)=>`((md (d9 ⟨rfl,?_⟩)))
local macro_rules | `(↥121)=>`((jb (zd bT j G rfl zU rfl (j0 jC j5))))
local macro_rules | `(↥122)=>`((HO.ins C dx ↥0))
local macro_rules | `(↥123)=>`((λb o hb e=>eb b o hb e))
local macro_rules | `(↥124)=>`((wpAny_pure ⟨_,rfl,wpAny_pure h⟩))
local macro_rules | `(↥125)=>`((by simp only [au] <;> omega))
local macro_rules | `(↥126)=>`((∀σ2 H2,NX σ2 H2->∃m',m'<m/\W (i+1) m' σ2 H2))
local macro_rules | `(↥127)=>`((je j (a.mono ⋯) rfl ↥10))
local macro_rules | `(↥128)=>`((.builtin "sorted"))
local macro_rules | `(↥129)=>`((p.getD (base+i) 0))
local macro_rules | `(↥130)=>`((p.extract m (m+j)))
local macro_rules | `(↥131)=>`(((df w.params).nsMap mainGlobals "__annotations__"))
local macro_rules | `(↥132)=>`((b∈X.ex\/X.s₀.heap.objs.size<=b))
local macro_rules | `(↥133)=>`(((d.map λi=>ns.getD i 0).map V.int))
local macro_rules | `(↥134)=>`((p.toList.take k++(po.toList++p.toList.drop (m+j))))
local macro_rules | `(↥135)=>`(((ju rs).map λh=>(qB rs h).reverse))
local macro_rules | `(↥136)=>`((.type "list"))
local macro_rules | `(↥137)=>`((#[(0,m,pw),(m,p.size-m,0)]:Array (Nat×Nat×Nat)))
local macro_rules | `(↥138)=>`((j0 (xH (v:=V.ty "bool") rfl nb.b_bool iK rfl) j5))
local macro_rules | `(↥139)=>`((uk CX P w K mg base N j scope f G A outer s H E))
local macro_rules | `(↥140)=>`((["which","where","kind","lane","rock"]:List Str))
local macro_rules | `(↥141)=>`((λy=>hc (by simp [y])))
local macro_rules | `(↥142)=>`((Ext.put.trans Ext.put))
local macro_rules | `(↥143)=>`((j0 j7 (j0 j7 j5)))
local macro_rules | `(↥144)=>`((c.lds.set n (a,xR ns y m)))
local macro_rules | `(↥145)=>`((jW (qk m) (pv 2) jC (λ_ _=>rfl)))
local macro_rules | `(↥146)=>`((jW (qk b) (pv 0) jC (λ_ _=>rfl)))
local macro_rules | `(↥147)=>`((jz 0 0 ms (m+ ↥58)-jz 0 0 ms m))
local macro_rules | `(↥148)=>`((bf h₁ (λ_ s₂ h₂=>?_) λ_ _ h'=>h'.elim))
set_option hygiene true
section
namespace HO
open PySem PySem.W PyProof.Rows PySem.Calls PySem.Spec
def view:Program:={ PySem.Challenge.pw_firnfall_k36_falls_that_can_have_brought with main:={ PySem.Challenge.pw_firnfall_k36_falls_that_can_have_brought.main with body:=(PySem.Challenge.pw_firnfall_k36_falls_that_can_have_brought.main.body).drop 75 } }
def loose:List Str:=[aj "_wall",aj "FirnError",aj "BadValley",aj "BadRound",aj "BadWeather",aj "BadYear",aj "BadSurge",aj "NoLane",aj "NoPlace",aj "MOST_REACHES",aj "MOST_HEIGHTS",aj "GREATEST_HEIGHT",aj "MOST_LANES",aj "LONGEST_LANE",aj "is_valley",aj "is_reach",aj "leads_on",aj "fits",aj "lanes",aj "way_down",aj "way_of",aj "count_places",aj "heights",aj "HIGHEST_LINE",aj "MOST_HANDS",aj "MOST_ROWS",aj "is_weather",aj "is_round",aj "change",aj "LAST_TOLD",aj "LAST_ASKED",aj "GREATEST_SURGE",aj "check_told",aj "check_asked",aj "check_round",aj "Ice",aj "ride_by",aj "earliest",aj "span",aj "life",aj "falls_for",aj "left_in",aj "_law_box",aj "_law_mixed",aj "_law_take",aj "_law_whole",aj "_law_alike",aj "_law_weather",aj "_law_round",aj "_law_ground_drawn",aj "_law_reaches",aj "_law_roads",aj "_law_ground",aj "_law_year",aj "_law_scene",aj "_law_made",aj "_law_row",aj "_law_wish",aj "_law_ride",aj "_law_spot",aj "_law_rest_by_life",aj "_law_cliffs",aj "_law_letter",aj "_law_true_find",aj "_law_find",aj "_law_falls",aj "_law_life_at"]
section
local macro_rules | `(tactic| o_head $H)=>`(tactic| (have hook:=$H;assumption))
theorem frag (j: (↥59).Holds): (↥59).Holds:=by
 k_head
end
def asL:List Addr:=[2,3,15,17,18,20,21,22,29,30,31,32,35,42,43,44,47,54,55,56,59,66,67,68,71,78,79,80,83,90,91,92,95,102,103,104,107,114,115,116,119,122,123,124,127,128,129,131,132,134,135,136,139,140,141,144,145,146,148,149,151,152,153,155,156,158,159,160,163,164,165,168,169,170,172,173,175,176,177,180,181,182,184,185,187,188,189,191,192,194,195,196,198,199,201,202,203,205,206,208,209,217,220,221,222,224,225,227,228,229,231,232,234,235,236,238,239,241,242,243,245,246,248,249,250,252,253,255,256,257,259,260,262,263,264,266,267,269,270,271,273,274,276,277,278,280,281,283,284,285,287,288,290,291,292,294,295,297,298,299,301,302,304,305,306,309,310,311,314,315,316,318,319,321,322,323,325,326,328,329,330,332,333,335,336,337,338,339,340,341,344,347,348,349,351,352,354,355,356,358,359,361,362,363,365,366,368,369,370,373,374,375,377,378,380,381,382,384,385,387,388,389,391,392,394,395,396,398,399,401,402,403,405,406,408,409,410,413,414,415,417,418,420,421,422,425,426,427,430,431,432,435,436,437,440,441,442,444,445,447,448,449,451,452,454,455,456,459,460,461,463,464,466,467,468,470,471,473,474,475,477,478,480,481,482,485,486,487,489,490,492,493,494,496,497,499,500,501,503,504,506,507,508,510,511,513,514,515,517,518,520,521,522,524,525,527,528,529,531,532,534,535,536,538,539,541,542,543,545,546,548,549]
theorem asE (P:Al):asL=(frag.heap_1 P).map (·.1):=by kernel_rfl
def El:List Obj->Nat->BT->BT
 | [],_,t=>t
 | o::r,n,t=>El r (n+1) (t.ins n o)
noncomputable def s0T (w:bx) (os:n6):SharedT:=⟨El (df w.params).objs.toList 0 .nil,(df w.params).objs.size,(df w.params).life,pY [],pJ,boot_toks,os⟩
noncomputable def topT (w:bx) (os:n6):Option (Flow×SharedT×Code×Pos):=PySem.W.Fast.tw10110043849684766642 PySem.W.Fast.tw14364793385576792824 PySem.Challenge.pw_firnfall_k36_falls_that_can_have_brought w (df w.params).objs.size ↥131 0 12000 (s0T w os) ↥98
noncomputable def top (w:bx) (os:n6):Option Shared:=(topT w os).map λr=>r.2.1.abs
def xt (s:Shared):Bool:=xlAt view [] s && recOk (RowW.records (OpenRow.toRowW ↥59)) s
theorem ran2 (w:bx) (os:n6):(top w os).map (λs=>(asL.map s.heap.get?,[142].map s.heap.get?))=some ((frag.heap_1 w.params).map λp=>some p.2,[142].map λ_=>some (sW #[])):=by kernel_rfl
theorem ws:OpenLaw.wellSaid PySem.Challenge.rw_firnfall_k36_falls_that_can_have_brought=true:=by kernel_rfl
theorem ran1 (w:bx) (os:n6):(top w os).map (λs=>A9 view loose ↥23 xt true s)=some (Aa view loose):=by kernel_rfl
theorem ran0 (w:bx) (os:n6):(top w os).map (λs=>rY ↥23 (df w.params) s.heap && pK PySem.Challenge.pw_firnfall_k36_falls_that_can_have_brought s.heap && sX s && sY (df w.params) s.heap)=some true:=by kernel_rfl
theorem Wv (w:bx) (os:n6):(s0T w os).abs=⟨df w.params,pY [],pJ,boot_toks,os⟩:=by kernel_rfl
theorem XI {m:Nat}:∀{n:Nat}{s s':Shared}{t:Thread}{f:Flow}{c:Code}{q:Pos},segRun tb p w m j 0 n s t=some (f,s',c,q)->A4 tb p w m j n s t=some s'
 | 0,_,_,_,_,_,_,h=>by cases h
 | n+1,s,s',t,f,c,q,h=>by
  unfold segRun at h
  unfold A4
  cases d:endAt 0 t with
  | some x =>
   rw [d] at h
   have g:through t=true:=by
    obtain ⟨e,code,pos,st⟩:=t
    cases st with
    | cons a b=>cases d
    | nil =>
     unfold endAt at d
     unfold through
     split at d
     ·rename_i _ _ _ _ u
      have l:e=_:=u
      subst l
      rfl
     ·cases d
   rw [g]
   cases h
   rfl
  | none =>
   rw [d] at h
   have g:through t=false:=by
    obtain ⟨e,code,pos,st⟩:=t
    cases st with
    | cons a b=>rfl
    | nil =>
     cases e <;> first | rfl | (rename_i x;cases x <;> first | rfl | cases d)
   rw [g]
   cases k:stepOk m j t with
   | false=>rw [k] at h;cases h
   | true =>
    rw [k] at h
    cases i:step (denote tb) p w s t with
    | halt o r=>rw [i] at h;cases h
    | go r v=>rw [i] at h;exact XI h
theorem VS {os:n6}(e:top w os=some s):A4 A0 PySem.Challenge.pw_firnfall_k36_falls_that_can_have_brought w (df w.params).objs.size ↥131 12000 ⟨df w.params,pY [],pJ,boot_toks,os⟩ ↥98=some s:=by
 obtain ⟨⟨f,b,c,q⟩,h,rfl⟩:=Option.map_eq_some_iff.mp e
 have h2:segRunT A0 PySem.Challenge.pw_firnfall_k36_falls_that_can_have_brought w (df w.params).objs.size ↥131 0 12000 (s0T w os) ↥98=some (f,b,c,q):=by
  rw [PySem.W.Fast.te10110043849684766642,PySem.W.Fast.te14364793385576792824]
  exact h
 have a:=XI (segRun_of h2)
 rw [Wv] at a
 exact a
theorem WN (w:bx):((df w.params).isNs mainGlobals && (pY []:Array GenState).size == 0)=true:=by kernel_rfl
theorem QA {N:Nat}{h:Heap}{j d k os}(U:(h.isNs mainGlobals && j.size == 0)=true) (G:A4 tb p w h.objs.size (h.nsMap mainGlobals "__annotations__") N ⟨h,j,d,k,os⟩ (sS p)=some s) (I:(rY (ez p.main.body) h s.heap && pK p s.heap && sX s && sY h s.heap)=true):topFrom tb p w N ⟨h,j,d,k,os⟩=some s:=by
 unfold topFrom
 rw [U]
 show ((A4 tb p w h.objs.size (h.nsMap mainGlobals "__annotations__") N ⟨h,j,d,k,os⟩ (sS p)).bind _)=_
 rw [G]
 show (match rY (ez p.main.body) h s.heap && pK p s.heap && sX s && sY h s.heap with | true=>some s | false=>none)=_
 rw [I]
theorem YG {N:Nat}(a:fencedOpening tb p w N=some j) (t:topFrom tb p w N j=some s):Ab tb p w N=some s:=by
 unfold Ab
 rw [a]
 exact t
theorem left:LeftO (↥59).prog view loose xt (Hook.obs (rZ frag.heap_1 asL asE [142])) (Hook.val (rZ frag.heap_1 asL asE [142])) 12000:=λw=>by
 obtain ⟨⟨h,m,d,k,os⟩,a,b⟩:=Option.map_eq_some_iff.mp (boot_open (p:=PySem.Challenge.pw_firnfall_k36_falls_that_can_have_brought) (N:=12000) (by kernel_rfl) ⋯ (λs=>by kernel_rfl) w)
 obtain ⟨rfl,rfl,rfl,rfl⟩:h=df w.params/\m=pY []/\d=pJ/\k=boot_toks:=by simpa using b
 have c:=ran0 w os
 have h1:=ran1 w os
 have h2:=ran2 w os
 cases e:top w os with
 | none=>rw [e] at h1;cases h1
 | some s =>
  rw [e] at c h1 h2
  have l:(rY ↥23 (df w.params) s.heap && pK PySem.Challenge.pw_firnfall_k36_falls_that_can_have_brought s.heap && sX s && sY (df w.params) s.heap)=true:=bB c
  have j:A9 view loose ↥23 xt true s=Aa view loose:=bB h1
  obtain ⟨i,g⟩:=Prod.mk.inj (bB h2)
  have f:asL.map s.heap.get? = (frag.heap_1 w.params).map λp=>some p.2:=i
  have t:=YG a (QA (WN w) (VS e) l)
  show (Ab A0 PySem.Challenge.pw_firnfall_k36_falls_that_can_have_brought w 12000).map _=_
  rw [t]
  show some (A9 view loose ↥23 xt true s,(asL.map s.heap.get?,[142].map s.heap.get?))=some (Aa view loose,_)
  rw [j,f,g]
  rfl
end HO
end
noncomputable section
namespace L2
noncomputable abbrev Key:=Sum Int Str
noncomputable def JF:Key->ai->Bool
 | .inl k,v=>Value.isInt k v
 | .inr x,v=>tQ x v
noncomputable def keyH (w:bx):Key->Int
 | .inl k=>hashInt k
 | .inr x=>hashStr w x
theorem qz:∀{k:Key}{v:ai},JF k v=true->(∃i t,k=fe i/\v=mL i t)\/(∃x t,k=bw x/\v=oZ x t)
 | .inl i,v,h=>by
  obtain ⟨t,e⟩:=mh (k:=i) (v:=v) h
  exact .inl ⟨i,t,rfl,e⟩
 | .inr x,v,h=>by
  obtain ⟨t,e⟩:=pj (x:=x) (v:=v) h
  exact .inr ⟨x,t,rfl,e⟩
theorem YA (i:Int) (t:Tok):JF (.inl i) (.int i t)=true:=by simp [JF,Value.isInt]
theorem YY (x:Str) (t:Tok):JF (.inr x) (.str x t)=true:=by simp [JF,tQ]
theorem WF (a b:Int):decide ((fe a:Key)=fe b)=(a == b):=by
 by_cases e:a=b
 ·subst e;simp
 ·have h:¬(fe a:Key)=fe b:=λq=>e (eX q)
  rw [decide_eq_false h]
  exact (beq_eq_false_iff_ne.mpr e).symm
theorem WJ (a b:Str):decide ((bw a:Key)=bw b)=decide (a=b):=by
 by_cases e:a=b
 ·subst e;simp
 ·have h:¬(bw a:Key)=bw b:=λq=>e (Sum.inr.inj q)
  rw [decide_eq_false h,decide_eq_false e]
theorem WY (a:Int) (b:Str):decide ((fe a:Key)=bw b)=false:=decide_eq_false (λq=>nomatch q)
theorem G6 (a:Str) (b:Int):decide ((bw a:Key)=fe b)=false:=decide_eq_false (λq=>nomatch q)
noncomputable def jH (prog:Program) (w:bx):PySem.KeyKind prog w Key where
 is:=JF
 hash:=keyH w
 inj:=λv a b ha hb=>by
  rcases qz ha with ⟨i,t,rfl,rfl⟩ | ⟨x,t,rfl,rfl⟩
  ·rcases qz hb with ⟨j,u,rfl,e⟩ | ⟨y,u,rfl,e⟩
   ·injection e with e1 _;rw [e1]
   ·exact nomatch e
  ·rcases qz hb with ⟨j,u,rfl,e⟩ | ⟨y,u,rfl,e⟩
   ·exact nomatch e
   ·injection e with e1 _;rw [e1]
 byValue:=λk v h=>by
  rcases qz h with ⟨i,t,rfl,rfl⟩ | ⟨x,t,rfl,rfl⟩ <;> rfl
 pyHash:=λhv h=>by
  rcases qz hv with ⟨i,t,rfl,rfl⟩ | ⟨x,t,rfl,rfl⟩
  ·exact wpAny_pyHash_int h
  ·exact wpAny_pyHash_str h
 eqBool:=λhu hv h=>by
  rcases qz hu with ⟨i,t,rfl,rfl⟩ | ⟨x,t,rfl,rfl⟩
  ·rcases qz hv with ⟨j,u,rfl,rfl⟩ | ⟨y,u,rfl,rfl⟩
   ·rw [WF] at h;exact mM h
   ·rw [WY] at h;exact pL i t y u _ _ _ _ h
  ·rcases qz hv with ⟨j,u,rfl,rfl⟩ | ⟨y,u,rfl,rfl⟩
   ·rw [G6] at h;exact pM x t j u _ _ _ _ h
   ·rw [WJ] at h;exact wpAny_eqBool_str h
 «strs»:=λk x t v h=>by
  rcases qz h with ⟨i,u,rfl,e⟩ | ⟨y,u,rfl,e⟩
  ·exact nomatch e
  ·injection e with e1 _
   subst e1
   cases v <;> rfl
theorem XN (prog:Program) (w:bx) (i:Int) (t:Tok):(jH prog w).is (.inl i) (.int i t)=true:=YA i t
theorem QN (prog:Program) (w:bx) (x:Str) (t:Tok):(jH prog w).is (.inr x) (.str x t)=true:=YY x t
end L2
namespace L2
inductive V where
 | non | bl (b:Bool) | int (i:Int) | str (x:Str) | byt (b:Array UInt8) | flt (b:UInt64) | ref (a:Addr) | ty (n:String)
 deriving DecidableEq
noncomputable def jE:V->ai->Prop
 | .non,u=>u=aV
 | .bl b,u=>u=n9 b
 | .int i,u=>∃t,u=mL i t
 | .str x,u=>∃t,u=oZ x t
 | .byt b,u=>∃t,u=Value.bytes b t
 | .flt b,u=>∃t,u=sG b t
 | .ref a,u=>u=b8 a
 | .ty n,u=>u=iS n
noncomputable abbrev jG:List V->List ai->Prop:=cW jE
theorem jG.length {xs:List V}(r:jG xs us):xs.length=us.length:=aP r
theorem jG.get:∀{xs:List V}{us:List ai}{i:Nat}{x:V},jG xs us->xs[i]? = some x->∃u,us[i]? = some u/\jE x u
 | _,_,_,_,.nil,e=>by simp at e
 | _,_,0,_,.cons r _,e=>by simp at e;subst e;exact ⟨_,rfl,r⟩
 | _,_,i+1,x,.cons _ t,e=>by
  obtain ⟨u,h1,h2⟩:=jG.get (i:=i) (x:=x) t (by simpa using e)
  exact ⟨u,by simpa using h1,h2⟩
theorem jG.set {x:V}(r:jE x u):∀{xs:List V}{us:List ai}(i:Nat),jG xs us->jG (xs.set i x) (us.set i u)
 | _,_,_,.nil=>.nil
 | _,_,0,.cons _ t=>.cons r t
 | _,_,i+1,.cons q t=>.cons q (jG.set r i t)
theorem jG.append:∀{xs ys:List V}{us ws:List ai},jG xs us->jG ys ws->jG (xs++ys) (us++ws)
 | _,_,_,_,.nil,s=>s
 | _,_,_,_,.cons r t,s=>.cons r (jG.append t s)
theorem jG.take:∀{xs:List V}{us:List ai}(n:Nat),jG xs us->jG (xs.take n) (us.take n)
 | _,_,0,_=>.nil
 | _,_,_+1,.nil=>.nil
 | _,_,n+1,.cons r t=>.cons r (jG.take n t)
theorem jG.drop:∀{xs:List V}{us:List ai}(n:Nat),jG xs us->jG (xs.drop n) (us.drop n)
 | _,_,0,r=>r
 | _,_,_+1,.nil=>.nil
 | _,_,n+1,.cons _ t=>jG.drop n t
noncomputable def yT:Option V->Option ai->Prop
 | some v,some u=>jE v u
 | none,none=>True
 | _,_=>False
noncomputable def KV {κ:Type}:List (κ×V)->List (κ×ai)->Prop:=cW λ(p:κ×V) (q:κ×ai)=>p.1=q.1/\jE p.2 q.2
noncomputable def kV:Key->V
 | .inl i=>.int i
 | .inr x=>.str x
inductive HO where
  | lst (xs:List V)
  | tup (xs:List V)
  | dK (kvs:List (Key×V)) | dT (kvs:List (List Key×V))
  | set (S:Int->Bool) (n:Nat)
  | ins (C dx:Addr) (fs:List (Str×V))
  | own (x:Addr)
  | xd (fs:List (Str×V))
  | met (f x:Addr)
  | rng (lo hi:Int)
  | frz (o:Obj) (u:HO)
  | tbl (ps:Array ai)
  | ext (φ:Heap->Prop)
noncomputable abbrev Hp:=Addr->Option HO
noncomputable def upd (H:Hp) (a:Addr) (o:HO):Hp:=λb=>if b=a then some o else H b
theorem j9 :upd H a o a=some o:=by unfold upd;rw [if_pos rfl]
theorem j8 {a b:Addr}(h:b≠a):upd H a o b=H b:=by unfold upd;rw [if_neg h]
theorem jm {H:Hp}(h:H a=some o) (h':H b=some u) (d:o≠u):a≠b:=by
 intro e;subst e;rw [h] at h';exact d (bB h')
theorem j4 {H:Hp}(h:H a=some o) (h':H b=none):a≠b:=by
 intro e;subst e;rw [h] at h';cases h'
section
variable (P:Program) (w:bx)
noncomputable def qq (H:Hp) (h:Heap) (a:Addr):HO->Prop
 | .lst xs=>xs.length<=sizeLine/\∃(b:List ai) (n:Nat),jG xs b/\h.get? a=some { cls:=.type "list",data:=.seq b.toArray n }
 | .tup xs=>xs.length<=sizeLine/\∃b:List ai,jG xs b/\IsTup h a b.toArray
 | .dK kvs=>kvs.length<=sizeLine/\(a == eG)=false/\∃c,KV kvs c/\h.DictOf (jH P w) a c
 | .dT kvs=>kvs.length<=sizeLine/\(a == eG)=false/\∃xs:List ↥93,
   cW (λ(p:List Key×V) (q:List Key×Addr×ai)=>p.1=q.1/\H q.2.1=some (.tup (p.1.map kV))/\jE p.2 q.2.2) kvs xs /\
   ∃o es d,h.get? a=some o/\o.ExactDict/\o.data = .dict es d/\es.toList=xs.map (entryOfKey (mO (jH P w)))/\(xs.map (·.1)).Nodup
 | .set S n=>h.SetOf (intKind P w) a S n
 | .ins C dx fs=>H dx=some (.own a)/\fs.length<=1000/\dx≠a/\h.get? a=some (dE C dx) /\
   ∃mA,h.Ns1 dx mA/\(∀f,yT (fs.lookup f) (mA f))/\pZ mA (fs.map (·.1))
 | .own _=>∃o,h.get? a=some o
 | .xd fs=>∃mA,h.Ns1 a mA/\∀f,yT (fs.lookup f) (mA f)
 | .rng lo hi=>∃t u v,h.get? a=some { cls:=.type "range",data:=.fields #[.int lo t,.int hi u,.int 1 v] }
 | .frz o u=>h.get? a=some o/\qq H h a u
 | .tbl ps=>h.get? a=some { cls:=.none,data:=.fields ps }
 | .met f x=>h.get? a=some (mi (.ref f) (.ref x))
 | .ext φ=>φ h/\(∃o,h.get? a=some o)/\∀h1 h2:Heap,φ h1->(∀o,h1.get? a=some o->h2.get? a=some o)->φ h2
noncomputable def HOk (H:Hp) (h:Heap):Prop:=∀a o,H a=some o->qq P w H h a o
end
section
variable {P:Program}{w:bx}{H H':Hp}{h h':Heap}{a:Addr}{o:HO}
theorem qq.lt (x:qq P w H h a o):a<h.objs.size:=by
 cases o with
 | lst xs=>obtain ⟨_,_,_,_,e⟩:=x;exact aw e
 | tup xs=>obtain ⟨_,_,_,p⟩:=x;exact p.lt
 | dK kvs=>obtain ⟨_,_,_,_,o,_,_,e,_⟩:=x;exact aw e
 | dT kvs=>obtain ⟨_,_,_,_,o,_,_,e,_⟩:=x;exact aw e
 | set S n=>obtain ⟨o,_,_,_,e,_⟩:=x;exact aw e
 | ins C dx fs=>obtain ⟨_,_,_,e,_⟩:=x;exact aw e
 | own y=>obtain ⟨_,e⟩:=x;exact aw e
 | xd fs=>obtain ⟨_,⟨_,_,_,e,_⟩,_⟩:=x;exact aw e
 | rng lo hi=>obtain ⟨_,_,_,e⟩:=x;exact aw e
 | frz b u=>obtain ⟨e,_⟩:=x;exact aw e
 | tbl ps=>exact aw (show h.get? a=some _ from x)
 | met f y=>exact aw (show h.get? a=some _ from x)
 | ext φ=>obtain ⟨_,⟨_,e⟩,_⟩:=x;exact aw e
theorem Paired.mapP {α β:Type}{F G:α->β->Prop}:∀{l₁:List α}{j:List β},cW F l₁ j->(∀a b,F a b->G a b)->cW G l₁ j
 | _,_,.nil,_=>.nil
 | _,_,.cons r t,f=>.cons (f _ _ r) (Paired.mapP t f)
theorem qq.stay (x:qq P w H h a o) (k:∀b u,(b=a\/H b=some (.own a))->h.get? b=some u->h'.get? b=some u)
  (I:∀b,H b=some (.own a)->H' b=some (.own a)) (G:∀b xs,H b=some (.tup xs)->H' b=some (.tup xs)):qq P w H' h' a o:=by
 induction o with
 | lst xs=>obtain ⟨z,j,n,r,e⟩:=x;exact ⟨z,j,n,r,k _ _ (.inl rfl) e⟩
 | tup xs=>obtain ⟨z,j,r,g,e,c⟩:=x;exact ⟨z,j,r,g,k _ _ (.inl rfl) e,c⟩
 | dK kvs=>obtain ⟨z,y,m,r,g,es,i,e,c⟩:=x;exact ⟨z,y,m,r,g,es,i,k _ _ (.inl rfl) e,c⟩
 | dT kvs =>
  obtain ⟨z,y,xs,r,g,es,i,e,c⟩:=x
  exact ⟨z,y,xs,Paired.mapP r λp q z=>⟨z.1,G _ _ z.2.1,z.2.2⟩,g,es,i,k _ _ (.inl rfl) e,c⟩
 | set S n=>obtain ⟨g,es,i,t,e,c⟩:=x;exact ⟨g,es,i,t,k _ _ (.inl rfl) e,c⟩
 | ins C dx fs =>
  obtain ⟨d,z,ne,e,mA,⟨l,es,i,A,c⟩,r⟩:=x
  exact ⟨I _ d,z,ne,k _ _ (.inl rfl) e,mA,⟨l,es,i,k _ _ (.inr d) A,c⟩,r⟩
 | own y=>obtain ⟨g,e⟩:=x;exact ⟨g,k _ _ (.inl rfl) e⟩
 | xd fs=>obtain ⟨mA,⟨l,es,i,e,c⟩,r⟩:=x;exact ⟨mA,⟨l,es,i,k _ _ (.inl rfl) e,c⟩,r⟩
 | rng lo hi=>obtain ⟨t,u,v,e⟩:=x;exact ⟨t,u,v,k _ _ (.inl rfl) e⟩
 | frz g u s=>obtain ⟨e,q⟩:=x;exact ⟨k _ _ (.inl rfl) e,s q⟩
 | tbl ps =>
  have e:h.get? a=some { cls:=.none,data:=.fields ps }:=x
  show h'.get? a=some { cls:=.none,data:=.fields ps }
  exact k a _ (.inl rfl) e
 | met f y =>
  have e:h.get? a=some (mi (.ref f) (.ref y)):=x
  show h'.get? a=some (mi (.ref f) (.ref y))
  exact k a _ (.inl rfl) e
 | ext φ=>obtain ⟨p,⟨o,e⟩,st⟩:=x;exact ⟨st _ _ p λo q=>k _ _ (.inl rfl) q,⟨o,k _ _ (.inl rfl) e⟩,st⟩
theorem HOk.lt (x:HOk P w H h) (e:H a=some o):a<h.objs.size:=(x a o e).lt
theorem HOk.fresh (x:HOk P w H h) (e:h.objs.size<=a):H a=none:=by
 cases q:H a with
 | none=>rfl
 | some u=>exact absurd (aX (x.lt q) e) (cX _)
theorem HOk.kept (x:HOk P w H h) (k:∀b u,h.get? b=some u->h'.get? b=some u):HOk P w H h':=λa o e =>
 (x a o e).stay (λb u _ q=>k b u q) (λ_ q=>q) λ_ _ q=>q
theorem HOk.laid (x:HOk P w H h) (k:∀b u,h.get? b=some u->h'.get? b=some u) (j:h.objs.size<=a) (new:qq P w (upd H a o) h' a o):HOk P w (upd H a o) h':=λb u e=>by
 have d:=x.fresh j
 by_cases f:b=a
 ·subst f;rw [j9] at e;cases e;exact new
 ·rw [j8 f] at e
  exact (x b u e).stay (λc v _ q=>k c v q) (λc q=>by rw [j8 (j4 q d)];exact q) λc xs q=>by rw [j8 (j4 q d)];exact q
end
noncomputable def Rd (H:Hp) (a:Addr) (u:HO):Prop:=H a=some u\/∃o,H a=some (.frz o u)
theorem Rd.ok {w:bx}{a:Addr}(r:Rd H a u) (x:HOk P w H h):qq P w H h a u:=by
 rcases r with r | ⟨o,r⟩
 ·exact x a u r
 ·obtain ⟨_,q⟩:=x a _ r
  exact q
noncomputable def Mut:Option HO->Prop
 | some (.lst _)=>True
 | some (.dK _)=>True
 | some (.dT _)=>True
 | some (.set _ _)=>True
 | some (.ins _ _ _)=>True
 | some (.ext _)=>True
 | _=>False
section
variable {P:Program}{w:bx}{H:Hp}{h h':Heap}{x e:Addr}{o':HO}
theorem HOk.write (ok:HOk P w H h) (j:Mut (H x)) (I:e=x\/H e=some (.own x)) (k:∀b u,b≠e->h.get? b=some u->h'.get? b=some u) (G:∃u,h'.get? e=some u)
  (new:qq P w (upd H x o') h' x o'):HOk P w (upd H x o') h':=λb u q=>by
 have d:∀c y,H c=some (.own y)->c≠x:=λc y r z=>by subst z;rw [r] at j;exact j
 have g:∀c xs,H c=some (.tup xs)->c≠x:=λc xs r z=>by subst z;rw [r] at j;exact j
 by_cases f:b=x
 ·subst f;rw [j9] at q;cases q;exact new
 ·rw [j8 f] at q
  by_cases a:b=e
  ·have i:H b=some (.own x):=by
    rcases I with z | z
    ·exact absurd (a.trans z) f
    ·rw [a];exact z
   rw [q] at i;cases i
   obtain ⟨v,l⟩:=G
   exact ⟨v,by rw [a];exact l⟩
  ·refine (ok b u q).stay (λc v hc r=>k c v ?_ r) (λc r=>by rw [j8 (d c b r)];exact r) λc xs r=>by rw [j8 (g c xs r)];exact r
   rcases hc with rfl | hc
   ·exact a
   ·rintro rfl
    rcases I with z | z
    ·exact d c b hc z
    ·rw [hc] at z;cases z;exact f rfl
end
structure Un (fs ex:List Addr) (H H':Hp) (h h':Heap):Prop where
 keep:∀b o,h.get? b=some o->H b=none->b∉fs->b∉ex->h'.get? b=some o
 slot:∀b o,h.get? b=some o->H b=none->b∈fs->b∉ex->∃sl,h'.get? b=some { o with slots:=sl }
 free:∀b o,h.get? b=some o->H b=none->b∉ex->H' b=none
 there:∀b o,h.get? b=some o->b∉ex->∃o',h'.get? b=some o'
 tups:∀b xs,H b=some (.tup xs)->H' b=some (.tup xs)
 frzs:∀b o u,H b=some (.frz o u)->H' b=some (.frz o u)
 tbls:∀b ps,H b=some (.tbl ps)->∃more,H' b=some (.tbl (ps++more))
section
variable {fs fs' ex ex':List Addr}{H H1 H2:Hp}{h h1 h2 h':Heap}{a x e:Addr}{o:HO}
theorem Un.any (u:Un fs ex H H1 h h1) {b:Addr}{j:Obj}(q:h.get? b=some j) (n:H b=none) (G:b∉ex):∃I,h1.get? b=some { j with slots:=I }:=by
 by_cases a:b∈fs
 ·exact u.slot b j q n a G
 ·exact ⟨j.slots,u.keep b j q n a G⟩
theorem Un.kept (k:∀b u,h.get? b=some u->h'.get? b=some u):Un fs ex H H h h' :=
 ⟨λb a q _ _ _=>k b a q,λb a q _ _ _=>⟨a.slots,k b a q⟩,λ_ _ _ n _=>n,λb a q _=>⟨a,k b a q⟩,λ_ _ q=>q,λ_ _ _ q=>q,λ_ ps q=>⟨#[],by rw [q];simp⟩⟩
theorem Un.refl:Un fs ex H H h h:=Un.kept λ_ _ q=>q
theorem Un.laid (k:∀b u,h.get? b=some u->h'.get? b=some u) (hp:h.objs.size<=a) (hn:H a=none):Un fs ex H (upd H a o) h h' where
 keep:=λb u q _ _ _=>k b u q
 slot:=λb u q _ _ _=>⟨u.slots,k b u q⟩
 free:=λb u q n _=>by rw [j8 (aF (aX (aw q) hp))];exact n
 there:=λb u q _=>⟨u,k b u q⟩
 tups:=λb xs q=>by rw [j8 (j4 q hn)];exact q
 frzs:=λb u xs q=>by rw [j8 (j4 q hn)];exact q
 tbls:=λb ps q=>⟨#[],by rw [j8 (j4 q hn),q];simp⟩
theorem Un.write (j:Mut (H x)) (I:e=x\/H e=some (.own x)) (k:∀b u,b≠e->h.get? b=some u->h'.get? b=some u) (G:∃u,h'.get? e=some u):Un fs ex H (upd H x o) h h':=by
 have d:∀b,H b=none->b≠x:=λb n z=>by subst z;rw [n] at j;exact j
 have f:∀b,H b=none->b≠e:=λb n z=>by
  subst z
  rcases I with r | r
  ·exact d b n r
  ·rw [n] at r;cases r
 have c:∀b u,H b=some u->¬Mut (some u)->b≠x:=λb u q nm z=>by subst z;rw [q] at j;exact nm j
 refine ⟨λb u q n _ _=>k b u (f b n) q,λb u q n _ _=>⟨u.slots,k b u (f b n) q⟩,λb u q n _=>by rw [j8 (d b n)];exact n,λb u q _=>?_,
  λb xs q=>by rw [j8 (c b _ q λz=>z)];exact q,λb u xs q=>by rw [j8 (c b _ q λz=>z)];exact q,λb ps q=>⟨#[],by rw [j8 (c b _ q λz=>z),q];simp⟩⟩
 by_cases a:b=e
 ·subst a;exact G
 ·exact ⟨u,k b u a q⟩
end
noncomputable def trk (h:Heap) (H:Hp):List Addr:=(aW h.objs.size).filter λa=>(H a).isSome
noncomputable def J4 (h:Heap) (H:Hp):Heap:=PySem.W.hideAll h (trk h H)
theorem YX (h:Heap) (H:Hp):(J4 h H).objs.size=h.objs.size:=PySem.W.hideAll_size _ _
theorem VI {h:Heap}{H:Hp}{b:Addr}(e:h.get? b=some o) (n:H b=none):(J4 h H).get? b=some o :=
 PySem.W.hideAll_get _ e λa=>by
  have q:(H b).isSome=true:=(List.mem_filter.mp a).2
  rw [n] at q;simp at q
theorem UM {b:Addr}(e:(J4 h H).get? b=some o):h.get? b=some o/\H b=none:=by
 have a:h.get? b=some o:=PySem.W.of_hideAll (trk h H) e
 refine ⟨a,?_⟩
 cases q:H b with
 | none=>rfl
 | some x =>
  have c:b∈trk h H:=List.mem_filter.mpr ⟨List.mem_range.mpr (aw a),by simp [q]⟩
  have z:(J4 h H).get? b=none:=PySem.W.hideAll_none (trk h H) c
  rw [z] at e;cases e
noncomputable def Ub (g h:Heap) (L:Addr):List (Addr×Obj):=(aW h.objs.size).filterMap λa=>if a=L\/(g.get? a).isSome=true then none else (h.get? a).map λo=>(a,o)
noncomputable def ua (g h:Heap) (L d:Addr):List (Addr×Obj):=(Ub g h L).filter λp=>decide (p.1≠d)
end L2
namespace L2
structure Mod (K:af) (mg:Str->Option ai) (base:Heap):Prop where
 kin:K.In base
 glob:base.Ns mainGlobals mg
 blt:∃mb,base.Ns nc mb/\∀x:Str,x ≠ "__name__" -> mb x=il x
 nolimit:base.NoLimit
structure Cx where
 prog:Program
 w:bx
 K:af
 mg:Str->Option ai
 base:Heap
 A:bC
 N:List Str
 s₀:Shared
 H₀:Hp
 env:Env
 outer:List Env
 stack:List Env
 ex:List Addr
 fn:Str->Bool
 calm:Bool
 pn:List (Addr×Obj)
 xe:ai->Shared->Prop
noncomputable def frs (l:List Env):List Addr:=l.filterMap (·.frame)
noncomputable abbrev Cx.fs (X:Cx):List Addr:=frs X.outer
noncomputable def Vis (j:Scope) (x:Str):Prop:=j.names.lookup x=some .local\/j.names.lookup x=some .cell\/j.names.lookup x=some .free
noncomputable def Loc (j:Scope) (x:Str):Prop:=j.names.lookup x=some .local\/j.names.lookup x=some .cell
noncomputable def Look (env:Env) (h:Heap) (m:Str->Option ai) (x:Str) (u:ai):Prop :=
 (env.kindOf x=some .local/\m x=some u)\/((env.kindOf x=some .cell\/env.kindOf x=some .free)/\∃c,env.cells.lookup x=some c/\h.IsCell c (some u))
structure Cx.Ok (X:Cx):Prop where
 mod:Mod X.K X.mg X.base
 kind:X.env.scope.kind = .function
 glob:X.env.globals=mainGlobals
 blt:X.env.builtins=nc
 above:X.s₀.heap.objs.size<=X.env.locals
 inj:∀x y c,X.env.cells.lookup x=some c->X.env.cells.lookup y=some c->x=y
 has:∀x,(X.env.kindOf x=some .cell\/X.env.kindOf x=some .free)->∃c,X.env.cells.lookup x=some c
 cab:∀x c,X.fn x=true->X.env.cells.lookup x=some c->X.s₀.heap.objs.size<=c
 hd:X.calm=true->X.A.handled=none
 frames:X.A.frames=some X.stack
 stk:X.stack=X.outer\/(X.stack=X.env::X.outer/\X.env.frame=some X.env.locals)
 exf:∀b∈X.ex,b≠X.env.locals/\∀x c,X.env.cells.lookup x=some c->c≠b
 bs:∀b o,X.base.get? b=some o->X.s₀.heap.get? b=some o/\X.H₀ b=none
 bsz:X.base.objs.size<=X.s₀.heap.objs.size
 noex:∀b o,X.base.get? b=some o->b∉X.ex
 exfs:∀b∈X.ex,b∉X.fs
 funs:X.s₀.heap.FunFrames X.base X.outer
 frf:∀b∈X.fs,X.H₀ b=none
structure Inv (X:Cx) (pins:List (Addr×Obj)) (σ:List (Option V)) (H:Hp) (s:Shared):Prop where
 ok:X.Ok
 os:s.os=X.s₀.os
 bare:iU s.gens
 base:Un X.fs X.ex X.H₀ H X.s₀.heap s.heap
 loc:∃m,s.heap.Ns X.env.locals m/\∀(i:Nat) (x:Str) (v:V),X.N[i]? = some x->σ[i]? = some (some v)->Vis X.env.scope x->∃u,jE v u/\Look X.env s.heap m x u
 cell:∀x c,X.env.cells.lookup x=some c->∃v,s.heap.IsCell c v
 free:H X.env.locals=none
 freeC:∀x c,X.env.cells.lookup x=some c->H c=none
 pin:∀p∈X.pn++pins,s.heap.get? p.1=some p.2/\H p.1=none/\p.1≠X.env.locals/\p.1∉X.fs/\∀v,p.2.data≠.cell v
 hok:HOk X.prog X.w H s.heap
 len:σ.length=X.N.length
section
variable {X:Cx}{pins:List (Addr×Obj)}{σ:List (Option V)}{H H':Hp}{s:Shared}{h':Heap}
theorem Cx.Ok.nofr (ok:X.Ok) {b:Addr}(e:X.base.get? b=some o):b∉X.fs:=λa=>by
 have:=(ok.funs.mem a).1
 rw [e] at this;cases this
theorem Inv.bs (I:Inv X pins σ H s):∀b o,X.base.get? b=some o->s.heap.get? b=some o/\H b=none:=λb o e =>
 ⟨I.base.keep b o (I.ok.bs b o e).1 (I.ok.bs b o e).2 (I.ok.nofr e) (I.ok.noex b o e),I.base.free b o (I.ok.bs b o e).1 (I.ok.bs b o e).2 (I.ok.noex b o e)⟩
theorem Inv.bk (I:Inv X pins σ H s):∀b o,X.base.get? b=some o->s.heap.get? b=some o:=λb o e=>(I.bs b o e).1
theorem Inv.mod (I:Inv X pins σ H s):Mod X.K X.mg X.base:=I.ok.mod
theorem Inv.kIn (I:Inv X pins σ H s):X.K.In s.heap:=I.ok.mod.kin.keeps I.bk
theorem Inv.lt (I:Inv X pins σ H s):X.env.locals<s.heap.objs.size:=let ⟨_,a,_⟩:=I.loc;a.lt
theorem Inv.sz (I:Inv X pins σ H s):X.s₀.heap.objs.size<=s.heap.objs.size:=aN I.ok.above (ff I.lt)
theorem Inv.nofs (I:Inv X pins σ H s) {a:Addr}(h:s.heap.objs.size<=a):a∉X.fs:=λc=>by
 obtain ⟨_,o,b,_⟩:=I.ok.funs.mem c
 exact absurd (aX (aw b) (aN I.sz h)) (cX _)
theorem Inv.cne (I:Inv X pins σ H s):∀x c,X.env.cells.lookup x=some c->c≠X.env.locals:=λx c e z=>by
 obtain ⟨v,o,b,f⟩:=I.cell x c e
 obtain ⟨m,⟨o',es,g,a,d,_⟩,_⟩:=I.loc
 rw [z,a] at b;cases b;rw [d] at f;cases f
theorem Inv.funs (I:Inv X pins σ H s):s.heap.FunFrames X.base X.outer:=by
 have all:∀(l:List Env),(∀b∈frs l,b∈X.fs)->X.s₀.heap.FunFrames X.base l->s.heap.FunFrames X.base l:=by
  intro l
  induction l with
  | nil=>intro _ _;trivial
  | cons env r g =>
   intro f k
   obtain ⟨m,⟨L,o,a,j,i,n⟩,h⟩:=k
   have d:L∈X.fs:=f L (by unfold frs;rw [lF,a];exact aM)
   obtain ⟨p,e⟩:=I.base.slot L o i (I.ok.frf L d) d λz=>I.ok.exfs L z d
   exact ⟨m,⟨L,_,a,j,e,n⟩,g (λb c=>f b (by unfold frs;rw [lF,a];exact aK _ c)) h⟩
 exact all X.outer (λ_ c=>c) I.ok.funs
theorem Inv.stack (I:Inv X pins σ H s):s.heap.FunFrames X.base X.stack:=by
 rcases I.ok.stk with e | ⟨e,b⟩
 ·rw [e];exact I.funs
 ·rw [e]
  obtain ⟨m,a,_⟩:=I.loc
  refine .cons (by rw [I.ok.kind];decide) b a ?_ I.funs
  exact Heap.get?_none_of_le (aN I.ok.bsz I.ok.above)
theorem Inv.stkSub (I:Inv X pins σ H s):∀b∈frs X.stack,b∈X.env.locals::X.fs:=λb a=>by
 rcases I.ok.stk with e | ⟨e,c⟩
 ·rw [e] at a;exact aK _ a
 ·rw [e] at a
  unfold frs at a
  rw [lF,c] at a
  exact a
theorem Inv.stkFree (I:Inv X pins σ H s):∀b∈frs X.stack,H b=none:=λb hb=>by
 rcases List.mem_cons.mp (I.stkSub b hb) with e | hb
 ·rw [e];exact I.free
 ·obtain ⟨_,o,a,_⟩:=I.ok.funs.mem hb
  exact I.base.free b o a (I.ok.frf b hb) λz=>I.ok.exfs b z hb
theorem Inv.step {t':Nat}{d':Drawn}{ch:List Addr}(I:Inv X pins σ H s)
  (j:∀b∈ch,↥132/\b≠X.env.locals/\ ↥102/\∀p∈X.pn++pins,p.1≠b)
  (keep:∀b o,b≠X.env.locals->b∉X.fs->b∉ch->s.heap.get? b=some o->H b=none->h'.get? b=some o)
  (G:∀b o,b≠X.env.locals->b∈X.fs->b∉ch->s.heap.get? b=some o->H b=none->∃sl,h'.get? b=some { o with slots:=sl }) (free:∀b o,b∉ch->s.heap.get? b=some o->H b=none->H' b=none)
  (U:∀b o,b∉ch->s.heap.get? b=some o->∃o',h'.get? b=some o')
  (Y:∀b xs,H b=some (.tup xs)->H' b=some (.tup xs)) (al:∀b o u,H b=some (.frz o u)->H' b=some (.frz o u)) (ab:∀b ps,H b=some (.tbl ps)->∃ac,H' b=some (.tbl (ps++ac)))
  (ns:∀m,s.heap.Ns X.env.locals m->h'.Ns X.env.locals m) (hok:HOk X.prog X.w H' h') (hg:iU g') :
  Inv X pins σ H' { s with heap:=h',gens:=g',drawn:=d',toks:=t' }:=by
 have neL:∀b o,X.s₀.heap.get? b=some o->b≠X.env.locals:=λb o e=>aF (aX (aw e) I.ok.above)
 have t:∀b o,X.s₀.heap.get? b=some o->b∉X.ex->b∉ch:=λb o e a h=>by
  rcases (j b h).1 with z | z
  ·exact a z
  ·exact absurd (aX (aw e) z) (cX _)
 have y:∀x c,X.env.cells.lookup x=some c->∀v,s.heap.IsCell c v->h'.IsCell c v:=λx c e v ⟨o,A,C⟩=>by
  have g:c∉ch:=λz=>(j c z).2.2.1 x c e rfl
  by_cases K:c∈X.fs
  ·obtain ⟨sl,q⟩:=G c o (I.cne x c e) K g A (I.freeC x c e)
   exact ⟨_,q,C⟩
  ·exact ⟨o,keep c o (I.cne x c e) K g A (I.freeC x c e),C⟩
 refine ⟨I.ok,I.os,hg,⟨λb o e n h a=>?_,λb o e n h a=>?_,λb o e n a=>?_,λb o e a=>?_,λb xs e=>Y b xs (I.base.tups b xs e),λb o xs e=>al b o xs (I.base.frzs b o xs e),λb ps e=>?_⟩,?_,λx c e=>?_,?_,λx c e=>?_,λp J=>?_,hok,I.len⟩
 ·exact keep b o (neL b o e) h (t b o e a) (I.base.keep b o e n h a) (I.base.free b o e n a)
 ·obtain ⟨sl,f⟩:=I.base.slot b o e n h a
  obtain ⟨D,B⟩:=G b _ (neL b o e) h (t b o e a) f (I.base.free b o e n a)
  exact ⟨D,B⟩
 ·obtain ⟨o',f⟩:=I.base.there b o e a
  exact free b o' (t b o e a) f (I.base.free b o e n a)
 ·obtain ⟨o',f⟩:=I.base.there b o e a
  exact U b o' (t b o e a) f
 ·obtain ⟨M,f⟩:=I.base.tbls b ps e
  obtain ⟨L,B⟩:=ab b _ f
  exact ⟨M++L,by rw [B,lS]⟩
 ·obtain ⟨m,N,O⟩:=I.loc
  refine ⟨m,ns m N,λi x v f B P=>?_⟩
  obtain ⟨u,r,l⟩:=O i x v f B P
  refine ⟨u,r,?_⟩
  rcases l with l | ⟨k,c,e,z⟩
  ·exact .inl l
  ·exact .inr ⟨k,c,e,y x c e _ z⟩
 ·obtain ⟨v,z⟩:=I.cell x c e
  exact ⟨v,y x c e v z⟩
 ·obtain ⟨m,⟨o,_,_,A,_⟩,_⟩:=I.loc
  exact free _ o (λz=>(j _ z).2.1 rfl) A I.free
 ·obtain ⟨v,o,A,C⟩:=I.cell x c e
  exact free c o (λz=>(j c z).2.2.1 x c e rfl) A (I.freeC x c e)
 ·obtain ⟨e,n,ne,E,d⟩:=I.pin p J
  have g:p.1∉ch:=λz=>(j p.1 z).2.2.2 p J rfl
  exact ⟨keep p.1 p.2 ne E g e n,free p.1 p.2 g e n,ne,E,d⟩
theorem Inv.un {t':Nat}(I:Inv X pins σ H s) (u:Un X.fs [] H H' s.heap h') (hok:HOk X.prog X.w H' h'):Inv X pins σ H' { s with heap:=h',toks:=t' }:=by
 obtain ⟨m,⟨o,es,p,d,r⟩,_⟩:=id I.loc
 obtain ⟨k,j⟩:=u.any d I.free (by simp)
 exact I.step (g':=s.gens) (d':=s.drawn) (ch:=[]) (λ_ z=>nomatch z) (λb o _ c _ e n=>u.keep b o e n c (by simp)) (λb o _ c _ e n=>u.slot b o e n c (by simp)) (λb o _ e n=>u.free b o e n (by simp)) (λb o _ e=>u.there b o e (by simp)) u.tups u.frzs u.tbls (λl i=>by
  obtain ⟨o',f,g,a,h⟩:=i
  rw [d] at a;cases a
  exact ⟨_,f,g,j,h⟩) hok I.bare
theorem Inv.call {t':Nat}{d':Drawn}{ch:List Addr}(I:Inv X pins σ H s) (u:Un (frs X.stack) ch H H' s.heap h') (hok:HOk X.prog X.w H' h') (G:iU g')
  (j:∀b∈ch,↥132/\b≠X.env.locals/\ ↥102/\∀p∈X.pn++pins,p.1≠b) :
  Inv X pins σ H' { s with heap:=h',gens:=g',drawn:=d',toks:=t' }:=by
 obtain ⟨m,⟨o,es,y,g,r⟩,_⟩:=id I.loc
 obtain ⟨t,f⟩:=u.any g I.free λz=>(j _ z).2.1 rfl
 exact I.step (ch:=ch) j (λb o f q a e n=>u.keep b o e n (λz=>(List.mem_cons.mp (I.stkSub b z)).elim f q) a) (λb o _ _ a e n=>u.any e n a) (λb o a e n=>u.free b o e n a) (λb o a e=>u.there b o e a) u.tups u.frzs u.tbls (λv l=>by
  obtain ⟨o',h,i,d,k⟩:=l
  rw [g] at d;cases d
  exact ⟨_,h,i,f,k⟩) hok G
theorem Inv.turned {t':Nat}{it:Addr}(I:Inv X pins σ H s) (k:∀b o,b≠it->s.heap.get? b=some o->h'.get? b=some o) (G:H it=none) (j:it≠X.env.locals)
  (h1:it∈X.ex\/X.s₀.heap.objs.size<=it) (h2:∀x c,X.env.cells.lookup x=some c->c≠it) (U:∀p∈X.pn++pins,p.1≠it):Inv X pins σ H { s with heap:=h',toks:=t' }:=by
 have d:∀b u,H b=some u->b≠it:=λb u e z=>by rw [z,G] at e;cases e
 refine I.step (g':=s.gens) (d':=s.drawn) (ch:=[it]) (λb h=>?_) (λb o _ _ a e _=>k b o (λz=>a (by simp [z])) e) (λb o _ _ a e _=>⟨o.slots,k b o (λz=>a (by simp [z])) e⟩) (λ_ _ _ _ n=>n)
  (λb o a e=>⟨o,k b o (λz=>a (by simp [z])) e⟩) (λ_ _ e=>e) (λ_ _ _ e=>e) (λb ps e=>⟨#[],by rw [e];simp⟩) (λm g=>?_) (λb u e=>?_) I.bare
 ·have e:b=it:=by simpa using h
  subst e
  exact ⟨h1,j,h2,U⟩
 ·obtain ⟨o,es,i,f,r⟩:=g
  exact ⟨o,es,i,k _ o (cV j) f,r⟩
 ·refine (I.hok b u e).stay (λc v a q=>k c v ?_ q) (λ_ q=>q) λ_ _ q=>q
  rcases a with z | z
  ·rw [z];exact d b u e
  ·exact d c _ z
theorem Inv.tok (I:Inv X pins σ H s) (t:Nat):Inv X pins σ H { s with toks:=t }:=I.un (h':=s.heap) (t':=t) Un.refl I.hok
theorem Inv.kept {t':Nat}(I:Inv X pins σ H s) (k:∀b u,s.heap.get? b=some u->h'.get? b=some u):Inv X pins σ H { s with heap:=h',toks:=t' }:=I.un (Un.kept k) (I.hok.kept k)
theorem Inv.laid {a:Addr}{t':Nat}(I:Inv X pins σ H s) (k:∀b u,s.heap.get? b=some u->h'.get? b=some u) (j:s.heap.objs.size<=a) (new:qq X.prog X.w (upd H a o) h' a o) :
  Inv X pins σ (upd H a o) { s with heap:=h',toks:=t' }:=I.un (Un.laid k j (I.hok.fresh j)) (I.hok.laid k j new)
theorem Inv.write {x e:Addr}{t':Nat}(I:Inv X pins σ H s) (G:Mut (H x)) (U:e=x\/H e=some (.own x)) (k:∀b u,b≠e->s.heap.get? b=some u->h'.get? b=some u) (j:∃u,h'.get? e=some u)
  (new:qq X.prog X.w (upd H x o) h' x o):Inv X pins σ (upd H x o) { s with heap:=h',toks:=t' }:=I.un (Un.write G U k j) (I.hok.write G U k j new)
theorem Inv.pins_of {j:List (Addr×Obj)}(I:Inv X pins σ H s) (h:∀p∈j,s.heap.get? p.1=some p.2/\H p.1=none/\p.1≠X.env.locals/\p.1∉X.fs/\∀v,p.2.data≠.cell v):Inv X j σ H s :=
 ⟨I.ok,I.os,I.bare,I.base,I.loc,I.cell,I.free,I.freeC,λp a=>(List.mem_append.mp a).elim (λz=>I.pin p (cc _ z)) (h p),I.hok,I.len⟩
theorem XA {N:List Str}(G:N.Nodup) {i j:Nat}(a:N[i]? = some x) (b:N[j]? = some x):i=j:=by
 obtain ⟨h1,d⟩:=List.getElem?_eq_some_iff.mp a
 obtain ⟨h2,c⟩:=List.getElem?_eq_some_iff.mp b
 exact (List.getElem_inj G).mp (d.trans c.symm)
theorem Jj {i:Nat}{Q:Unit->Shared->Prop}(I:Inv X pins σ H s) (hN:X.N.Nodup) (hi:X.N[i]? = some x) (G:Loc X.env.scope x) (r:jE v u)
  (h:∀s',Inv X pins (σ.set i (some v)) H s'->(∃a,fg a s.heap s'.heap/\(a=X.env.locals\/X.env.cells.lookup x=some a))->Q () s') (hf:X.fn x=true\/X.env.scope.names.lookup x=some .local:=by first | exact .inl rfl | exact .inr rfl | assumption):ax M A (A1 X.env x u) Q E s:=by
 obtain ⟨m,hn,hl⟩:=id I.loc
 have ac:(X.env.scope.kind == .class || (X.env.scope.kind == .module && X.env.locals != X.env.globals))=false:=by rw [I.ok.kind];rfl
 have P:i<σ.length:=by rw [I.len];exact (List.getElem?_eq_some_iff.mp hi).1
 have cne:=I.cne
 have l:∀{a:Addr} {h':Heap},(∃o,s.heap.get? a=some o/\H a=none)->fg a s.heap h'->HOk X.prog X.w H h':=λ{a h'} ha f b ob e=>by
  obtain ⟨_,_,D⟩:=ha
  refine (I.hok b ob e).stay (λc K hc q=>(f.2 c ?_).trans q) (λ_ q=>q) λ_ _ q=>q
  rintro rfl
  rcases hc with rfl | hc
  ·rw [D] at e;cases e
  ·rw [D] at hc;cases hc
 rcases G with hk | hk
 ·refine wpAny_storeName_local hk hn (λh' am f=>?_) ac
  obtain ⟨oL,_,_,al,_⟩:=id hn
  refine h _ ⟨I.ok,I.os,I.bare,⟨λb o e n C G=>?_,λb o e n C G=>?_,I.base.free,λb o e G=>?_,I.base.tups,I.base.frzs,I.base.tbls⟩,⟨_,am,λj y T g t e3=>?_⟩,λy c e=>?_,I.free,I.freeC,λp hp=>?_,l ⟨oL,al,I.free⟩ f,by simpa using I.len⟩ ⟨_,f,.inl rfl⟩
  ·exact (f.2 b (aF (aX (aw e) I.ok.above))).trans (I.base.keep b o e n C G)
  ·obtain ⟨V,g⟩:=I.base.slot b o e n C G
   exact ⟨V,(f.2 b (aF (aX (aw e) I.ok.above))).trans g⟩
  ·obtain ⟨o',g⟩:=I.base.there b o e G
   exact ⟨o',(f.2 b (aF (aX (aw e) I.ok.above))).trans g⟩
  ·by_cases B:j=i
   ·subst B
    rw [hi] at g;cases g
    rw [nh P] at t
    cases t
    exact ⟨u,r,.inl ⟨hk,by simp⟩⟩
   ·rw [oE (cV B)] at t
    obtain ⟨U,Y,q⟩:=hl j y T g t e3
    refine ⟨U,Y,?_⟩
    rcases q with ⟨k,e⟩ | ⟨k,c,e,z⟩
    ·refine .inl ⟨k,?_⟩
     have:y≠x:=λe=>B (XA hN g (e ▸ hi))
     simp [this,e]
    ·exact .inr ⟨k,c,e,z.sameBut f (cne y c e)⟩
  ·obtain ⟨K,z⟩:=I.cell y c e
   exact ⟨K,z.sameBut f (cne y c e)⟩
  ·obtain ⟨e,n,ne,Z,d⟩:=I.pin p hp
   exact ⟨(f.2 p.1 ne).trans e,n,ne,Z,d⟩
 ·have J:X.fn x=true:=by
   rcases hf with z | z
   ·exact z
   ·rw [z] at hk;cases hk
  obtain ⟨c,hc⟩:=I.ok.has x (.inl hk)
  obtain ⟨K,z⟩:=I.cell x c hc
  refine wpAny_storeName_cell I.ok.kind hk hc z (λh' S f=>?_)
  obtain ⟨oc,O,ab⟩:=id z
  refine h { s with heap:=h' } ⟨I.ok,I.os,I.bare,⟨λb o e n C G=>?_,λb o e n C G=>?_,I.base.free,λb o e G=>?_,I.base.tups,I.base.frzs,I.base.tbls⟩,⟨m,hn.sameBut f (cV (cne x c hc)),λj y T g t e3=>?_⟩,λy L e=>?_,I.free,I.freeC,λp hp=>?_,l ⟨oc,O,I.freeC x c hc⟩ f,by simpa using I.len⟩ ⟨c,f,.inr hc⟩
  ·exact (f.2 b (aF (aX (aw e) (I.ok.cab x c J hc)))).trans (I.base.keep b o e n C G)
  ·obtain ⟨V,g⟩:=I.base.slot b o e n C G
   exact ⟨V,(f.2 b (aF (aX (aw e) (I.ok.cab x c J hc)))).trans g⟩
  ·obtain ⟨o',g⟩:=I.base.there b o e G
   exact ⟨o',(f.2 b (aF (aX (aw e) (I.ok.cab x c J hc)))).trans g⟩
  ·by_cases B:j=i
   ·subst B
    rw [hi] at g;cases g
    rw [nh P] at t
    cases t
    exact ⟨u,r,.inr ⟨.inl hk,c,hc,S⟩⟩
   ·rw [oE (cV B)] at t
    obtain ⟨U,Y,q⟩:=hl j y T g t e3
    refine ⟨U,Y,?_⟩
    rcases q with q | ⟨k,L,e,z'⟩
    ·exact .inl q
    ·refine .inr ⟨k,L,e,z'.sameBut f ?_⟩
     rintro rfl
     exact B (XA hN g (I.ok.inj _ _ _ e hc ▸ hi))
  ·by_cases R:L=c
   ·subst R;exact ⟨_,S⟩
   ·obtain ⟨w2,z2⟩:=I.cell y L e
    exact ⟨w2,z2.sameBut f R⟩
  ·obtain ⟨e,n,ne,Z,d⟩:=I.pin p hp
   refine ⟨(f.2 p.1 ?_).trans e,n,ne,Z,d⟩
   intro q
   rw [q,O] at e
   have q':oc=p.2:=bB e
   exact d K (by rw [<- q'];exact ab)
theorem kG {i:Nat}{Q:Unit->Shared->Prop}(I:Inv X pins σ H s) (U:X.N.Nodup) (hi:X.N[i]? = some x) (j:Loc X.env.scope x) (r:jE v u)
  (h:∀s',Inv X pins (σ.set i (some v)) H s'->Q () s') (G:X.fn x=true\/X.env.scope.names.lookup x=some .local:=by first | exact .inl rfl | exact .inr rfl | assumption):ax M A (A1 X.env x u) Q E s :=
 Jj I U hi j r (λs' a _=>h s' a) G
theorem Inv.call' {s':Shared}{ch:List Addr}(I:Inv X pins σ H s) (G:s'.os=s.os) (u:Un (frs X.stack) ch H H' s.heap s'.heap) (hok:HOk X.prog X.w H' s'.heap) (U:iU s'.gens)
  (j:∀b∈ch,↥132/\b≠X.env.locals/\ ↥102/\∀p∈X.pn++pins,p.1≠b):Inv X pins σ H' s':=by
 obtain ⟨h',g',d',t',o'⟩:=s'
 have e:o'=s.os:=G
 subst e
 exact I.call (g':=g') (t':=t') (d':=d') u hok U j
end
noncomputable abbrev XK:=ai->Option Addr->Hp->Prop
noncomputable abbrev St:=List (Option V)
noncomputable abbrev VK:=V->Hp->Prop
noncomputable abbrev TE:=St->Hp->VK->Prop
noncomputable abbrev TT:=St->Hp->(Bool->Hp->Prop)->Prop
noncomputable abbrev TA:=St->Hp->(List V->Hp->Prop)->Prop
structure Ends where
 nx:St->Hp->Prop
 rt:VK
 bk:St->Hp->Prop:=λ_ _=>False
 ct:St->Hp->Prop:=λ_ _=>False
noncomputable abbrev TS:=Ends->St->Hp->Prop
noncomputable def EP (X:Cx) (pins:List (Addr×Obj)) (σ:St) (Q:VK) (u:ai) (s':Shared):Prop:=∃v H',Inv X pins σ H' s'/\jE v u/\Q v H'
noncomputable def TP (X:Cx) (pins:List (Addr×Obj)) (σ:St) (Q:Bool->Hp->Prop) (b:Bool) (s':Shared):Prop:=∃H',Inv X pins σ H' s'/\Q b H'
noncomputable def AP (X:Cx) (pins:List (Addr×Obj)) (σ:St) (Q:List V->Hp->Prop) (us:List ai) (s':Shared):Prop:=∃a H',Inv X pins σ H' s'/\jG a us/\Q a H'
noncomputable def SP (X:Cx) (pins:List (Addr×Obj)) (D:Ends) (f:Flow) (s':Shared):Prop :=
 match f with
 | .next=>∃a H',Inv X pins a H' s'/\D.nx a H'
 | .brk=>∃a H',Inv X pins a H' s'/\D.bk a H'
 | .cont=>∃a H',Inv X pins a H' s'/\D.ct a H'
 | .ret u=>∃v a H',Inv X pins a H' s'/\jE v u/\D.rt v H'
noncomputable def PE (X:Cx) (e:Expr) (t:TE):Prop :=
 ∀(pins:List (Addr×Obj)) (s:Shared) (σ:St) (H:Hp) (Q:VK),Inv X pins σ H s->t σ H Q->ax ↥6 X.A (eval e X.env) ↥62 X.xe s
noncomputable def PT (X:Cx) (e:Expr) (t:TT):Prop :=
 ∀(pins:List (Addr×Obj)) (s:Shared) (σ:St) (H:Hp) (Q:Bool->Hp->Prop),Inv X pins σ H s->t σ H Q->ax ↥6 X.A (isTrue e X.env (eval e X.env)) (TP X pins σ Q) X.xe s
noncomputable def PW (X:Cx) (e:Expr) (t:TT):Prop :=
 ∀(a:Sem ai) (pins:List (Addr×Obj)) (s:Shared) (σ:St) (H:Hp) (Q:Bool->Hp->Prop),Inv X pins σ H s->t σ H Q->ax ↥6 X.A (isTrue e X.env a) (TP X pins σ Q) X.xe s
theorem PW.pt {X:Cx}{e:Expr}{t:TT}(h:PW X e t):PT X e t:=h _
noncomputable def PA (X:Cx) (es:List Expr) (t:TA):Prop :=
 ∀(pos:Pos) (pins:List (Addr×Obj)) (s:Shared) (σ:St) (H:Hp) (Q:List V->Hp->Prop),Inv X pins σ H s->t σ H Q->ax ↥6 X.A (spliced ↥70) (AP X pins σ Q) X.xe s
noncomputable def PS (X:Cx) (st:Stmt) (t:TS):Prop :=
 ∀(pins:List (Addr×Obj)) (s:Shared) (σ:St) (H:Hp) (D:Ends),Inv X pins σ H s->t D σ H->ax ↥6 X.A (exec st X.env) (SP X pins D) X.xe s
noncomputable def PSs (X:Cx) (st:List Stmt) (t:TS):Prop :=
 ∀(pins:List (Addr×Obj)) (s:Shared) (σ:St) (H:Hp) (D:Ends),Inv X pins σ H s->t D σ H->ax ↥6 X.A (execs st X.env) (SP X pins D) X.xe s
theorem thn {α:Type}{t:Sem α}{Q j:α->Shared->Prop}{M:Model}{A:bC}{E:ai->Shared->Prop}{s:Shared}(h:ax M A t Q E s) (G:∀a s,Q a s->j a s):ax M A t j E s:=bf h G λ_ _ x=>x
end L2
namespace L2
section
variable {X:Cx}
theorem bin {a b:Expr}{ta tb:TE}(ha:PE X a ta) (hb:PE X b tb) {pins:List (Addr×Obj)}{s:Shared}{σ:St}{H:Hp}{R:V->V->Hp->Prop}(I:Inv X pins σ H s) (h:ta σ H λx H1=>tb σ H1 λy H2=>R x y H2)
  {α:Type} {Q:α->Shared->Prop} {f:ai->ai->Sem α}
  (Y:∀v u j x y H2,Inv X pins σ H2 j->jE x v->jE y u->R x y H2->ax ↥6 X.A (f v u) Q X.xe j) :
  ax ↥6 X.A (eval a X.env) (λv U=>ax ↥6 X.A (eval b X.env) (λu G=>ax ↥6 X.A (f v u) Q X.xe G) X.xe U) X.xe s:=by
 refine thn (ha pins s σ H _ I h) λv s1 ⟨x,H1,k,d,g⟩=>?_
 refine thn (hb pins s1 σ H1 _ k g) λu j ⟨y,H2,i,c,e⟩=>?_
 exact Y v u j x y H2 i d c e
inductive tVar (i:Nat) (σ:St) (H:Hp) (Q:VK):Prop
 | mk (v:_) (_:σ[i]? = some (some v)) (_:Q v H)
noncomputable def tC (v:V):TE:=λ_ H Q=>Q v H
theorem WC {i:Nat}{pos:Pos}(Y:X.N[i]? = some x) (U:Vis X.env.scope x) (j: ↥30=false:=by decide) (G:(x == ("__classdict__" : Str))=false:=by decide):PE X (.Name x pos) (tVar i):=by
 intro pins s σ H Q I h
 obtain ⟨v,e,h⟩:=h
 obtain ⟨m,d,g⟩:=I.loc
 obtain ⟨u,r,l⟩:=g i x v Y e U
 have fin:EP X pins σ Q u s:=⟨v,H,I,r,h⟩
 rcases l with ⟨hk,f⟩ | ⟨hk,c,b,a⟩
 ·exact sZ (oF I.ok.kind hk d f fin) j
 ·rcases hk with hk | hk
  ·exact sZ (pq I.ok.kind hk b a fin) j
  ·exact sZ (wpAny_loadName_free I.ok.kind hk b a fin G) j
theorem j7 {i j pos}:PE X (.Constant (.int i) j pos) (tC (.int i)):=λ_ _ _ H _ I h=>wpAny_Constant_int ⟨.int i,H,I.tok _,⟨_,rfl⟩,h⟩
theorem wV {b j pos}:PE X (.Constant (.bool b) j pos) (tC (.bl b)):=λ_ _ _ H _ I h=>Constant_bool ⟨.bl b,H,I,rfl,h⟩
theorem wb {j pos}:PE X (.Constant .none j pos) (tC .non):=λ_ _ _ H _ I h=>Constant_none ⟨.non,H,I,rfl,h⟩
theorem jC {x j pos}:PE X (.Constant (.str x) j pos) (tC (.str x)):=λ_ _ _ H _ I h=>Calls.Constant_str ⟨.str x,H,I.tok _,⟨_,rfl⟩,h⟩
noncomputable def Gl (X:Cx) (x:Str):Prop:=X.env.kindOf x=some .globalImplicit
theorem uA {pos:Pos}{Q:ai->Shared->Prop}(I:Inv X pins σ H s) (G:Gl X x) (j:X.mg x=some u) (h:Q u s)
  (U: ↥30=false:=by decide):ax ↥6 X.A (eval (.Name x pos) X.env) Q E s :=
 lT I.ok.kind G (Calls.loadGlobal_global (by rw [I.ok.glob];exact I.mod.glob.keeps I.bk) j h) U
theorem yG {pos:Pos}{Q:ai->Shared->Prop}(I:Inv X pins σ H s) (Y:Gl X x) (U:X.mg x=none) (j:il x=some u) (h:Q u s)
  (G:x ≠ "__name__":=by decide) (hd: ↥30=false:=by decide):ax ↥6 X.A (eval (.Name x pos) X.env) Q E s:=by
 obtain ⟨a,h1,h2⟩:=I.mod.blt
 exact lT I.ok.kind Y (Calls.loadGlobal_builtin (by rw [I.ok.glob];exact I.mod.glob.keeps I.bk) U (by rw [I.ok.blt];exact h1.keeps I.bk) ((h2 x G).trans j) h) hd
theorem xL {pos:Pos}(G:Gl X x) (j:X.mg x=some u) (r:jE v u) (U: ↥30=false:=by decide):PE X (.Name x pos) (tC v) :=
 λ_ _ _ H _ I h=>uA I G j ⟨v,H,I,r,h⟩ U
theorem xH {pos:Pos}(Y:Gl X x) (U:X.mg x=none) (j:il x=some u) (r:jE v u) (G:x ≠ "__name__":=by decide) (hd: ↥30=false:=by decide):PE X (.Name x pos) (tC v) :=
 λ_ _ _ H _ I h=>yG I Y U j ⟨v,H,I,r,h⟩ G hd
variable {a b:Expr}{ta tb:TE}{pos:Pos}
noncomputable def PC (X:Cx) (j:CmpOp) (a b:Expr) (t:TE):Prop :=
 ∀(pins:List (Addr×Obj)) (s:Shared) (σ:St) (H:Hp) (Q:VK),Inv X pins σ H s->t σ H Q ->
  ax ↥6 X.A (eval a X.env) (λv d=>ax ↥6 X.A (eval b X.env) (λu c=>ax ↥6 X.A (cg j v u) ↥62 X.xe c) X.xe d) X.xe s
theorem U3 (b:Expr) {j:CmpOp}(h:j≠.In) (h2:j≠.NotIn):fE j b=false:=by
 have c:(j == CmpOp.In)=false:=by cases j <;> first | rfl | exact absurd rfl h
 have a:(j == CmpOp.NotIn)=false:=by cases j <;> first | rfl | exact absurd rfl h2
 cases b <;> simp [fE,c,a]
inductive tBI (Q:Bool->Hp->Prop) (x:V) (H1:Hp):Prop
 | mk (c:_) (_:x = .bl c) (_:Q c H1)
noncomputable def tB (t:TE):TT:=λσ H Q=>t σ H λx H1=>tBI Q x H1
theorem VB {t:TE}(h:PC X j a b t) (h1:fE j b=false:=by first | exact U3 _ ⋯ ⋯ | rfl):PT X (.Compare a [j] [b] pos) (tB t):=by
 intro pins s σ H Q I g
 refine oj (thn (h pins s σ H _ I g) λv s1 h1=>thn h1 λu l h2=>thn h2 λc k ⟨x,H1,i,e,f⟩=>?_) h1
 obtain ⟨d,rfl,q⟩:=f
 cases e
 exact cw ⟨H1,i,q⟩
theorem zZ {t:TE}(h:PE X e t) (he:∀whole,isTrue e X.env whole=(do let v <- whole;ip e.pos;i8 [v] (truthy v)):=by intro _;rfl):PT X e (tB t):=by
 intro pins s σ H Q I hw
 refine isTrue_plain (thn (h pins s σ H _ I hw) λv s1 ⟨x,H1,I1,r1,q1⟩=>?_) (he _)
 obtain ⟨d,rfl,q⟩:=q1
 cases r1
 exact cw ⟨H1,I1,q⟩
variable {tA tB':TT}{ua:List Expr}
noncomputable def tAnd (t u:TT):TT:=λσ H Q=>t σ H λc H1=>if c=true then u σ H1 Q else Q false H1
noncomputable def tOr (t u:TT):TT:=λσ H Q=>t σ H λc H1=>if c=true then Q true H1 else u σ H1 Q
noncomputable def tNot (t:TT):TT:=λσ H Q=>t σ H λc H1=>Q (!c) H1
theorem yO (j:PT X a tA):PW X (.BoolOp .And [a] pos) tA:=by
 intro b pins s σ H Q I h
 refine isTrue_and (thn (j pins s σ H Q I h) λc s1 e=>?_)
 cases c with
 | true=>exact isTrue_and_nil e
 | false=>exact e
theorem Qz (j:PT X a tA):PW X (.BoolOp .Or [a] pos) tA:=by
 intro b pins s σ H Q I h
 refine isTrue_or (thn (j pins s σ H Q I h) λc s1 e=>?_)
 cases c with
 | false=>exact isTrue_or_nil e
 | true=>exact e
theorem vm (G:PT X a tA) (j:PW X (.BoolOp .And (b::ua) pos) tB'):PW X (.BoolOp .And (a::b::ua) pos) (tAnd tA tB'):=by
 intro f pins s σ H Q I h
 refine isTrue_and (thn ↥107 λc s1 ⟨H1,e,d⟩=>?_)
 cases c with
 | true=>exact j f pins s1 σ H1 Q e d
 | false=>exact ⟨H1,e,d⟩
theorem ZX (G:PT X a tA) (j:PW X (.BoolOp .Or (b::ua) pos) tB'):PW X (.BoolOp .Or (a::b::ua) pos) (tOr tA tB'):=by
 intro f pins s σ H Q I h
 refine isTrue_or (thn ↥107 λc s1 ⟨H1,e,d⟩=>?_)
 cases c with
 | true=>exact ⟨H1,e,d⟩
 | false=>exact j f pins s1 σ H1 Q e d
theorem xM (j:PT X a tA):PT X (.UnaryOp .Not a pos) (tNot tA):=by
 intro pins s σ H Q I h
 exact isTrue_not (j pins s σ H (λc H1=>Q (!c) H1) I h)
inductive tAndVI (tb:TE) (σ:St) (Q:VK) (x:V) (H1:Hp):Prop
 | mk (c:_) (_:x = .bl c) (_:if c=true then tb σ H1 Q else Q (.bl false) H1)
noncomputable def GN (ta tb:TE):TE:=λσ H Q=>ta σ H λx H1=>tAndVI tb σ Q x H1
inductive tNotVI (Q:VK) (x:V) (H1:Hp):Prop
 | mk (c:_) (_:x = .bl c) (_:Q (.bl (!c)) H1)
noncomputable def E9 (ta:TE):TE:=λσ H Q=>ta σ H λx H1=>tNotVI Q x H1
theorem yY {j}{t:TE}(h:PE X a t):PE X (.BoolOp j [a] pos) t:=λpins s σ H Q I b=>BoolOp_one (h pins s σ H Q I b)
theorem yv (G:PE X a ta) (j:PE X (.BoolOp .And (b::ua) pos) tb):PE X (.BoolOp .And (a::b::ua) pos) (GN ta tb):=by
 intro pins s σ H Q I h
 refine BoolOp_and (thn ↥107 λv s1 ⟨x,H1,e,f,d⟩=>?_)
 obtain ⟨c,rfl,d⟩:=d
 cases f
 refine cw ?_
 cases c with
 | true=>exact j pins s1 σ H1 Q e d
 | false=>exact ⟨.bl false,H1,e,rfl,d⟩
theorem Gw (j:PE X a ta):PE X (.UnaryOp .Not a pos) (E9 ta):=by
 intro pins s σ H Q I h
 refine UnaryOp_ (thn ↥108 λv s1 ⟨x,H1,e,d,b⟩=>?_)
 obtain ⟨c,rfl,b⟩:=b
 cases d
 exact not_of (cw ⟨.bl (!c),H1,e,rfl,b⟩)
noncomputable def tIf (t:TT) (ta tb:TE):TE:=λσ H Q=>t σ H λc H1=>if c=true then ta σ H1 Q else tb σ H1 Q
theorem Xr (j:PT X c tA) (U:PE X a ta) (G:PE X b tb):PE X (.IfExp c a b pos) (tIf tA ta tb):=by
 intro pins s σ H Q I h
 refine wpAny_IfExp (thn ↥108 λd s1 ⟨H1,f,e⟩=>?_)
 cases d with
 | true=>exact U pins s1 σ H1 Q f e
 | false=>exact G pins s1 σ H1 Q f e
end
end L2
namespace L2
noncomputable def SqL (K:af) (H:Hp) (a:Addr) (xs:List V):Prop :=
 Rd H a (.lst xs) \/
  ∃(o:Obj) (b:Array ai) (n:Nat),K.lookup a=some o/\o.cls = .type "list" /\ o.dict=none/\o.data = .seq b n/\b.size<=sizeLine/\jG xs b.toList
noncomputable def SqT (K:af) (H:Hp) (a:Addr) (xs:List V):Prop :=
 Rd H a (.tup xs) \/
  ∃(o:Obj) (b:Array ai) (n:Nat),K.lookup a=some o/\o.cls = .type "tuple" /\ o.data = .seq b n/\b.size<=sizeLine/\jG xs b.toList
noncomputable def absV:ai->Option V
 | .none=>some .non
 | .bool b=>some (.bl b)
 | .int i _=>some (.int i)
 | .str x _=>some (.str x)
 | .bytes b _=>some (.byt b)
 | .float b _=>some (.flt b)
 | .ref a=>some (.ref a)
 | .type n=>some (.ty n)
 | _=>none
theorem jE.abs {x:V}(r:jE x u):absV u=some x:=by
 cases x with
 | non=>cases r;rfl
 | bl _=>cases r;rfl
 | int _=>obtain ⟨t,rfl⟩:=r;rfl
 | str _=>obtain ⟨t,rfl⟩:=r;rfl
 | byt _=>obtain ⟨t,rfl⟩:=r;rfl
 | flt _=>obtain ⟨t,rfl⟩:=r;rfl
 | ref _=>cases r;rfl
 | ty _=>cases r;rfl
theorem jE.inj {x:V}(r:jE x u) (q:jE y u):x=y:=bB (r.abs.symm.trans q.abs)
theorem jG.inj:∀{xs ys:List V}{us:List ai},jG xs us->jG ys us->xs=ys
 | _,_,_,.nil,.nil=>rfl
 | _,_,_,.cons r t,.cons b a=>by rw [r.inj b,jG.inj t a]
section
variable {X:Cx}{pins:List (Addr×Obj)}{σ:St}{H:Hp}{s:Shared}{a:Addr}{xs ys:List V}
theorem SqL.of {K:af}(h:H a=some (.lst xs)):SqL K H a xs:=.inl (.inl h)
theorem SqT.of {K:af}(h:H a=some (.tup xs)):SqT K H a xs:=.inl (.inl h)
theorem Inv.list (I:Inv X pins σ H s) (h:SqL X.K H a xs):∃its:List ai,jG xs its/\PlainL s.heap a its.toArray/\xs.length<=sizeLine:=by
 rcases h with h | ⟨o,its,n,c,f,d,b,g,r⟩
 ·obtain ⟨z,its,n,r,e⟩:=h.ok I.hok
  exact ⟨its,r,⟨_,n,e,rfl,rfl,rfl⟩,z⟩
 ·refine ⟨its.toList,r,⟨o,n,I.kIn a o c,f,d,by simpa using b⟩,?_⟩
  have e:=r.length
  simp only [aG] at e
  omega
theorem Inv.tuple (I:Inv X pins σ H s) (h:SqT X.K H a xs):∃its:List ai,jG xs its/\IsTup s.heap a its.toArray/\xs.length<=sizeLine:=by
 rcases h with h | ⟨o,its,n,c,d,b,f,r⟩
 ·obtain ⟨z,its,r,p⟩:=h.ok I.hok
  exact ⟨its,r,p,z⟩
 ·refine ⟨its.toList,r,⟨o,I.kIn a o c,d,n,by simpa using b⟩,?_⟩
  have e:=r.length
  simp only [aG] at e
  omega
theorem Inv.list_inj (I:Inv X pins σ H s) (h:SqL X.K H a xs) (h':SqL X.K H a ys):xs=ys:=by
 obtain ⟨b,r,⟨o,n,e,_,_,d⟩,_⟩:=I.list h
 obtain ⟨its',g,⟨o',j,c,_,_,f⟩,_⟩:=I.list h'
 rw [e] at c;cases c
 rw [d] at f
 injection f with i _
 have:b=its':=by simpa using congrArg Array.toList i
 subst this
 exact r.inj g
theorem Inv.tuple_inj (I:Inv X pins σ H s) (h:SqT X.K H a xs) (h':SqT X.K H a ys):xs=ys:=by
 obtain ⟨b,r,⟨o,e,_,n,d⟩,_⟩:=I.tuple h
 obtain ⟨its',g,⟨o',c,_,j,f⟩,_⟩:=I.tuple h'
 rw [e] at c;cases c
 rw [d] at f
 injection f with i _
 have:b=its':=by simpa using congrArg Array.toList i
 subst this
 exact r.inj g
end
noncomputable abbrev Cx.wish (X:Cx) (E:ai->Shared->Prop):Cx:={ X with xe:=E }
noncomputable abbrev Cx.nox (X:Cx):Cx:=X.wish λ_ _=>False
theorem Cx.Ok.wish {X:Cx}(ok:X.Ok) (E:ai->Shared->Prop):(X.wish E).Ok :=
 ⟨ok.mod,ok.kind,ok.glob,ok.blt,ok.above,ok.inj,ok.has,ok.cab,ok.hd,ok.frames,ok.stk,ok.exf,ok.bs,ok.bsz,ok.noex,ok.exfs,ok.funs,ok.frf⟩
theorem Cx.Ok.unwish {X:Cx}(ok:(X.wish E).Ok):X.Ok :=
 ⟨ok.mod,ok.kind,ok.glob,ok.blt,ok.above,ok.inj,ok.has,ok.cab,ok.hd,ok.frames,ok.stk,ok.exf,ok.bs,ok.bsz,ok.noex,ok.exfs,ok.funs,ok.frf⟩
section
variable {X:Cx}{pins:List (Addr×Obj)}{σ:St}{H:Hp}{s:Shared}{E:ai->Shared->Prop}
theorem Inv.wish (I:Inv X pins σ H s) (E:ai->Shared->Prop):Inv (X.wish E) pins σ H s:=⟨I.ok.wish E,I.os,I.bare,I.base,I.loc,I.cell,I.free,I.freeC,I.pin,I.hok,I.len⟩
theorem Inv.unwish (I:Inv (X.wish E) pins σ H s):Inv X pins σ H s:=⟨I.ok.unwish,I.os,I.bare,I.base,I.loc,I.cell,I.free,I.freeC,I.pin,I.hok,I.len⟩
theorem SP.unwish {D:Ends}{f:Flow}(h:SP (X.wish E) pins D f s'):SP X pins D f s':=by
 cases f with
 | next=>obtain ⟨a,H',I,q⟩:=h;exact ⟨a,H',I.unwish,q⟩
 | brk=>obtain ⟨a,H',I,q⟩:=h;exact ⟨a,H',I.unwish,q⟩
 | cont=>obtain ⟨a,H',I,q⟩:=h;exact ⟨a,H',I.unwish,q⟩
 | ret u=>obtain ⟨v,a,H',I,r,q⟩:=h;exact ⟨v,a,H',I.unwish,r,q⟩
theorem PE.nox {e:Expr}{t:TE}(h:PE X.nox e t):PE X e t:=λpins s σ H Q I a =>
 bf (h pins s σ H Q (I.wish _) a) (λ_ _ ⟨v,H',b,r,q⟩=>⟨v,H',b.unwish,r,q⟩) λ_ _ z=>bM z
theorem PSs.nox {st:List Stmt}{t:TS}(h:PSs X.nox st t):PSs X st t:=λpins s σ H D I a =>
 bf (h pins s σ H D (I.wish _) a) (λ_ _ q=>q.unwish) λ_ _ z=>bM z
end
section
variable {X:Cx}{st:Stmt}{ua:List Stmt}{t u:TS}{e:Expr}{te:TE}{pos:Pos}
noncomputable def Ek:TS:=λD σ H=>D.nx σ H
noncomputable def tSeq (t u:TS):TS:=λD σ H=>t { D with nx:=u D } σ H
theorem jv:PSs X [] Ek:=λ_ _ σ H _ I h=>lg ⟨σ,H,I,h⟩
theorem j6 (h1:PS X st t) (h2:PSs X ua u):PSs X (st::ua) (tSeq t u):=by
 intro pins s σ H D I h
 refine mP (thn (h1 pins s σ H { D with nx:=u D } I h) λf s1 q=>?_)
 cases f with
 | next =>
  obtain ⟨a,H',b,q⟩:=q
  exact h2 pins s1 a H' D b q
 | ret v=>exact q
 | brk=>exact q
 | cont=>exact q
theorem jb (h1:PS X st t):PSs X [st] t:=by
 intro pins s σ H D I h
 refine mP (thn (h1 pins s σ H D I h) λf s1 q=>?_)
 cases f with
 | next=>exact lg q
 | ret v=>exact q
 | brk=>exact q
 | cont=>exact q
noncomputable def WD:TS:=λD σ H=>D.bk σ H
theorem Vo:PS X (.Break pos) WD:=λ_ _ σ H _ I h=>wpAny_Break ⟨σ,H,I,h⟩
theorem Inv.quiet {s:Shared}(I:Inv X pins σ H s):interactive X.env=false:=by simp [interactive,I.ok.kind]
noncomputable def GY (te:TE):TS:=λD σ H=>te σ H λ_ H1=>D.nx σ H1
theorem qa (G:PE X e te) (j:lQ e none pos.line X.env=pure false:=by rfl):PS X (.Expr e pos) (GY te):=by
 intro pins s σ H D I h
 exact wpAny_Expr_any (thn ↥107 λv s1 ⟨x,H1,b,c,a⟩=>⟨σ,H1,b,a⟩) I.quiet j
noncomputable def tRet (te:TE):TS:=λD σ H=>te σ H D.rt
theorem jk (j:PE X e te):PS X (.Return (some e) pos) (tRet te):=by
 intro pins s σ H D I h
 exact wpAny_Return_some (thn ↥108 λv s1 ⟨x,H1,c,a,b⟩=>⟨x,σ,H1,c,a,b⟩)
noncomputable def tIfS (c:TT) (t u:TS):TS:=λD σ H=>c σ H λb H1=>if b=true then t D σ H1 else u D σ H1
theorem jN (j:PT X c tc) (U:PSs X a t) (G:PSs X b u):PS X (.If c a b pos) (tIfS tc t u):=by
 intro pins s σ H D I h
 refine wpAny_If (thn ↥108 λd s1 ⟨H1,f,e⟩=>?_)
 cases d with
 | true=>exact U pins s1 σ H1 D f e
 | false=>exact G pins s1 σ H1 D f e
end
noncomputable abbrev TG:=V->St->Hp->(St->Hp->Prop)->Prop
noncomputable abbrev TGs:=List V->St->Hp->(St->Hp->Prop)->Prop
noncomputable def PG (X:Cx) (j:Expr) (t:TG):Prop :=
 ∀(pins:List (Addr×Obj)) (s:Shared) (σ:St) (H:Hp) (v:V) (u:ai) (Q:St->Hp->Prop),Inv X pins σ H s->jE v u->t v σ H Q ->
  ax ↥6 X.A (lh j X.env u) (λ_ s'=>∃a H',Inv X pins a H' s'/\Q a H') X.xe s
noncomputable def PGs (X:Cx) (ts:List Expr) (t:TGs):Prop :=
 ∀(pins:List (Addr×Obj)) (s:Shared) (σ:St) (H:Hp) (b:List V) (c:List ai) (Q:St->Hp->Prop),Inv X pins σ H s->jG b c->t b σ H Q ->
  ax ↥6 X.A (assignInOrder ((i9 ts X.env).map (·.2)) c) (λ_ s'=>∃a H',Inv X pins a H' s'/\Q a H') X.xe s
noncomputable abbrev WU:=V->V->V->Hp->(Hp->Prop)->Prop
noncomputable def Ej (X:Cx) (t:WU):Prop :=
 ∀(pins:List (Addr×Obj)) (s:Shared) (σ:St) (H:Hp) (o i v:V) (a b u:ai) (Q:Hp->Prop),Inv X pins σ H s->jE o a->jE i b->jE v u->t o i v H Q ->
  ax ↥6 X.A (setItem a b u) (λ_ s'=>∃H',Inv X pins σ H' s'/\Q H') X.xe s
noncomputable abbrev TIp:=V->V->Hp->VK->Prop
noncomputable def PIp (X:Cx) (j:Operator) (t:TIp):Prop :=
 ∀(pins:List (Addr×Obj)) (s:Shared) (σ:St) (H:Hp) (x y:V) (v u:ai) (Q:VK),Inv X pins σ H s->jE x v->jE y u->t x y H Q ->
  ax ↥6 X.A (se j v u) ↥62 X.xe s
section
variable {X:Cx}{pos:Pos}
noncomputable def wP (i:Nat):TG:=λv σ H Q=>Q (σ.set i (some v)) H
theorem jd {i:Nat}(U:X.N.Nodup) (hi:X.N[i]? = some x) (j:Loc X.env.scope x) (G:X.fn x=true\/X.env.scope.names.lookup x=some .local:=by first | exact .inl rfl | exact .inr rfl | assumption):PG X (.Name x pos) (wP i):=by
 intro pins s σ H v u Q I r h
 exact rg (kG I U hi j r (λs' a=>⟨_,H,a,h⟩) G)
noncomputable def gNil:TGs:=λa σ H Q=>a=[]/\Q σ H
inductive gCons (t:TG) (u:TGs) (vs:List V) (σ:St) (H:Hp) (Q:St->Hp->Prop):Prop
 | mk (v:_) (r:_) (_:vs=v::r) (_:t v σ H λσ' H'=>u r σ' H' Q)
theorem qi:PGs X [] gNil:=by
 intro pins s σ H a b Q I r h
 obtain ⟨e,h⟩:=h
 subst e
 cases r
 exact assignInOrder_nil ⟨σ,H,I,h⟩
theorem jh {t:TG}(h1:PG X e t) (h2:PGs X es u)
  (j:(i9 (e::es) X.env).map (·.2)=lh e X.env::(i9 es X.env).map (·.2):=by rfl):PGs X (e::es) (gCons t u):=by
 intro pins s σ H g k Q I r h
 obtain ⟨v,i,d,h⟩:=h
 subst d
 cases r with
 | cons r b =>
  rw [j]
  refine assignInOrder_cons (thn (h1 pins s σ H _ _ _ I r h) λ_ s1 ⟨a,H1,f,c⟩=>?_)
  exact h2 pins s1 a H1 _ _ Q f b c
inductive gTup (K:af) (n:Nat) (t:TGs) (v:V) (σ:St) (H:Hp) (Q:St->Hp->Prop):Prop
 | mk (a:_) (xs:_) (_:v = .ref a) (_:SqT K H a xs) (_:xs.length=n) (_:t xs σ H Q)
theorem GD {k:Nat}{t:TGs}{n:Nat}(U:X.calm=true) (h:PGs X es t)
  (G:(i9 es X.env).length=n:=by rfl) (j:(i9 es X.env).findIdx? (·.1)=none:=by rfl):PG X (.Tuple es k pos) (gTup X.K n t):=by
 intro pins s σ H v u Q I r c
 obtain ⟨a,xs,m,i,l,c⟩:=c
 subst m
 cases r
 obtain ⟨q,d,g,w⟩:=I.tuple i
 refine assign_Tuple_tuple (I.ok.hd U) g (by simp [G,<- l,d.length]) j λh' f=>?_
 have p:Inv X pins σ H { s with heap:=h' }:=I.kept (t':=s.toks) λb o e=>f b o (aF (aw e)) e
 exact h pins _ σ H xs _ Q p (by simpa using d) c
noncomputable def gSub (to j:TE) (t:WU):TG:=λv σ H Q=>to σ H λo H1=>j σ H1 λi H2=>t o i v H2 λa=>Q σ a
theorem Qv {t:WU}(ho:PE X o to) (hi:PE X i ti) (hs:Ej X t)
  (ha:∀v,lh (.Subscript o i pos) X.env v=(do
   let ov <- i8 [v] (eval o X.env)
   let iv <- i8 [v,ov] (eval i X.env)
   ip pos
   i8 [v,ov,iv] (setItem ov iv v)
   release [v,ov,iv] []):=by intro _;rfl):PG X (.Subscript o i pos) (gSub to ti t):=by
 intro pins s σ H v u Q I r h
 rw [ha]
 refine aa (bZ (thn (ho pins s σ H _ I h) λov s1 ⟨x,H1,I1,r1,q1⟩=>?_))
 refine aa (bZ (thn (hi pins s1 σ H1 _ I1 q1) λiv s2 ⟨y,H2,I2,r2,q2⟩=>?_))
 refine aa (dP (aa (bZ (thn (hs pins s2 σ H2 x y v ov iv u _ I2 r1 r2 r q2) λ_ s3 ⟨H3,I3,q3⟩=>?_))))
 exact wpAny_release ⟨σ,H3,I3,q3⟩
noncomputable def W5 (te:TE) (g:TG):TS:=λD σ H=>te σ H λx H1=>g x σ H1 D.nx
theorem xO (Y:PE X e te) (U:PG X tg g) (G:swapsWithSole [tg] e pos.line X.env=pure false:=by rfl) (j:swappedStores [tg] e X.env=pure none:=by rfl)
  (h1:(i9 [tg] X.env).map (·.2)=[lh tg X.env]:=by rfl):PS X (.Assign [tg] e pos) (W5 te g):=by
 intro pins s σ H D I h
 refine wpAny_Assign_stores (thn (Y pins s σ H _ I h) λv s1 ⟨x,H1,c,a,b⟩=>?_) G j
 rw [h1]
 exact thn (U pins s1 σ H1 x v _ c a b) λ_ d q=>q
theorem uc {i:Nat}(hN:X.N.Nodup) (hi:X.N[i]? = some x) (j:Loc X.env.scope x) (Y:PE X e te) (G:lQ e (some (.Name x pos')) pos.line X.env=pure false:=by rfl) (U:X.fn x=true\/X.env.scope.names.lookup x=some .local:=by first | exact .inl rfl | exact .inr rfl | assumption) :
  PS X (.Assign [.Name x pos'] e pos) (W5 te (wP i)):=by
 intro pins s σ H D I h
 refine wpAny_Assign_Name (thn (Y pins s σ H _ I h) λv s1 ⟨y,H1,d,a,b⟩=>?_) G
 exact kG d hN hi j a (λf c=>⟨_,H1,c,b⟩) U
theorem js (i:Nat)(Y:X.N.Nodup) (U:PE X e te) (hi:X.N[i]?=some x:=by rfl) (j:Loc X.env.scope x:=by exact aR rfl) (G:lQ e (some (.Name x pos')) pos.line X.env=pure false:=by rfl) (I:X.fn x=true\/X.env.scope.names.lookup x=some .local:=by first | exact .inl rfl | exact .inr rfl | assumption):PS X (.Assign [.Name x pos'] e pos) (W5 te (wP i)):=uc Y hi j U G I
inductive tAug (i:Nat) (te:TE) (ti:TIp) (D:Ends) (σ:St) (H:Hp):Prop
 | mk (x:_) (_:σ[i]? = some (some x)) (_:te σ H λy H1=>ti x y H1 λz H2=>D.nx (σ.set i (some z)) H2)
theorem JZ {i:Nat}(hN:X.N.Nodup) (hi:X.N[i]? = some x) (j:Loc X.env.scope x) (he:PE X e te) (Y:PIp X G U) (hf:X.fn x=true\/X.env.scope.names.lookup x=some .local:=by first | exact .inl rfl | exact .inr rfl | assumption) :
  PS X (.AugAssign (.Name x pos') G e pos) (tAug i te U):=by
 intro pins s σ H D I h
 obtain ⟨v,E,h⟩:=h
 obtain ⟨m,q,B⟩:=I.loc
 have b:Vis X.env.scope x:=by rcases j with k | k;exact .inl k;exact .inr (.inl k)
 obtain ⟨u,r,l⟩:=B i x v hi E b
 refine wpAny_AugAssign_Name ?_
 have go:ax ↥6 X.A (eval e X.env) (λw f=>ax ↥6 X.A (se G u w) (λr d=>ax ↥6 X.A (A1 X.env x r) (λ_=>SP X pins D .next) X.xe d) X.xe f) X.xe s:=by
  refine thn (he pins s σ H _ I h) λw s1 ⟨y,H1,L,n,p⟩=>?_
  refine thn (Y pins s1 σ H1 v y u w _ L r n p) λz P ⟨M,H2,K,g,o⟩=>?_
  exact kG K hN hi j g (λO J=>⟨_,H2,J,o⟩) hf
 rcases l with ⟨hk,t⟩ | ⟨hk,c,C,a⟩
 ·exact oF I.ok.kind hk q t go
 ·rcases hk with hk | hk
  ·exact pq I.ok.kind hk C a go
  ·rcases j with k | k
   ·have:X.env.scope.names.lookup x=some .free:=hk
    rw [k] at this;cases this
   ·have:X.env.scope.names.lookup x=some .free:=hk
    rw [k] at this;cases this
noncomputable def ipI (f:Int->Int->Int):TIp:=λx y H Q=>∃i j,x = .int i/\y = .int j/\Q (.int (f i j)) H
theorem Zn:PIp X .Add (ipI λi j=>i+j):=by
 intro pins s σ H x y v u Q I b a h
 obtain ⟨i,j,d,c,q⟩:=h
 subst d;subst c
 obtain ⟨t,rfl⟩:=b
 obtain ⟨e,rfl⟩:=a
 exact iadd_int ⟨.int _,H,I.tok _,⟨_,rfl⟩,q⟩
end
section
variable {X:Cx}{pos:Pos}
noncomputable def Vd (c:TT) (tb:TS):TS:=λD σ H=>∃W:Nat->St->Hp->Prop,(∃m,W m σ H)/\∀m σ H,W m σ H ->
 c σ H λb H1=>if b=true then ∃N:St->Hp->Prop,(∀a H',N a H'->∃d,d<m/\W d a H')/\tb { D with nx:=N,ct:=N,bk:=D.nx } σ H1 else D.nx σ H1
theorem QV (G:PassesOwn ↥6 X.A X.env X.xe) (U:PT X c tc) (Y:PSs X body tb):PS X (.While c body [] pos) (Vd tc tb):=by
 intro pins s σ H D I h
 obtain ⟨W,⟨z,x⟩,k⟩:=h
 refine wpAny_While (codeAny_whileLoop (λn s'=>∃q H',Inv X pins q H' s'/\W n q H') ?_ z ⟨σ,H,I,x⟩)
 rintro n s1 ⟨e,H1,B,u⟩
 refine eA G (thn (U pins s1 e H1 _ B (k n e H1 u)) λb y ⟨H2,t,i⟩=>?_)
 cases b with
 | true =>
  obtain ⟨N,r,i⟩:=i
  rw [if_pos rfl]
  refine eA G (thn (Y pins y e H2 _ t i) λf C g=>?_)
  cases f with
  | next =>
   obtain ⟨a,d,p,l⟩:=g
   obtain ⟨m,o,j⟩:=r a d l
   exact ⟨m,o,a,d,p,j⟩
  | cont =>
   obtain ⟨a,d,p,l⟩:=g
   obtain ⟨m,o,j⟩:=r a d l
   exact ⟨m,o,a,d,p,j⟩
  | brk=>exact g
  | ret v=>exact g
 | false =>
  rw [if_neg aq]
  exact lg ⟨e,H2,t,i⟩
end
structure It where
 go:Nat->Hp->Prop
 yld:Nat->Hp->V->Hp->Prop
 stop:Nat->Hp->Prop
noncomputable def wE (X:Cx) (pins:List (Addr×Obj)) (H:Hp) (b:Addr):Prop :=
 H b=none/\b≠X.env.locals/\b∉X.fs/\ ↥132/\ ↥102/\∀p∈X.pn++pins,p.1≠b
theorem Inv.fpOk {X:Cx}{H':Hp}{s:Shared}{b:Addr}(I:Inv X pins σ H s) (j:s.heap.objs.size<=b) (G:H' b=none):wE X pins H' b:=by
 refine ⟨G,dN (aX I.lt j),I.nofs j,.inr (aN I.sz j),λx c e z=>?_,λp a z=>?_⟩
 ·obtain ⟨v,q⟩:=I.cell x c e
  exact absurd (aX q.lt (by rw [z];exact j)) (cX _)
 ·exact absurd (aX (aw (I.pin p a).1) (by rw [z];exact j)) (cX _)
structure Turn (P:Program) (w:bx) (K:af) (tg:Expr) (J:It) (fp:List Addr) (it:Addr) (tn:Nat->Heap->Prop):Prop where
 mem:it∈fp
 obj:∀i h,tn i h->∀b∈fp,∃o,h.get? b=some o/\∀v,o.data≠.cell v
 keep:∀i h h',tn i h->(∀b∈fp,∀o,h.get? b=some o->h'.get? b=some o)->tn i h'
 item:∀(X:Cx),X.prog=P->X.w=w->X.K=K->X.calm=true->∀(i:Nat) (pins:List (Addr×Obj)) (s:Shared) (σ:St) (H:Hp) (E:ai->Shared->Prop),Inv X pins σ H s->(∀b∈fp,wE X pins H b)->tn i s.heap->J.go i H ->
  ax (ay P w) X.A (lj (.ref it)) (λr s1=>∃u,r=some u /\
   ax (ay P w) X.A (dG tg (.ref it) u) (λ_ s2=>∃x H',Inv X pins σ H' s2/\jE x u/\J.yld i H x H'/\tn (i+1) s2.heap/\∀b∈fp,H' b=none) E s1) E s
 done:∀(X:Cx),X.prog=P->X.w=w->X.K=K->X.calm=true->∀(i:Nat) (pins:List (Addr×Obj)) (s:Shared) (σ:St) (H:Hp) (E:ai->Shared->Prop),Inv X pins σ H s->(∀b∈fp,wE X pins H b)->tn i s.heap->J.stop i H ->
  ax (ay P w) X.A (lj (.ref it)) (λr s1=>r=none/\Inv X pins σ H s1) E s
 self:∀(A:bC) (i:Nat) (s:Shared) (Q:ai->Shared->Prop) (E:ai->Shared->Prop),tn i s.heap->Q (.ref it) s->ax (ay P w) A (oG (.ref it)) Q E s
noncomputable abbrev TI:=St->Hp->(It->Hp->Prop)->Prop
noncomputable def PIE (X:Cx) (pins:List (Addr×Obj)) (σ:St) (tg:Expr) (R:It->Hp->Prop) (G:ai) (j:Shared):Prop :=
 ∃(it:Addr) (c:List Addr) (a:Nat->Heap->Prop) (J:It) (H':Hp),G = .ref it/\Inv X pins σ H' j/\Turn X.prog X.w X.K tg J c it a/\a 0 j.heap/\(∀b∈c,wE X pins H' b)/\R J H'
noncomputable def PI (X:Cx) (tg iter:Expr) (j:TI):Prop :=
 ∀(pins:List (Addr×Obj)) (s:Shared) (σ:St) (H:Hp) (R:It->Hp->Prop),Inv X pins σ H s->j σ H R ->
  ax ↥6 X.A (eval iter X.env) (λv s1=>ax ↥6 X.A (oG v) (PIE X pins σ tg R) X.xe s1) X.xe s
theorem QP {s:Shared}{it:Addr}{n:String}{Q:Unit->Shared->Prop}(G:s.heap.get? it=some o) (Y:o.cls = .type n) (U:o.data = .fields vs)
  (I:["enumerate","zip","dict_itemiterator","dict_reverseitemiterator","odict_iterator","itertools.zip_longest","itertools.pairwise"].contains n=false) (j:Q () s):ax M A (dG tg (.ref it) u) Q E s:=by
 unfold dG
 cases tg <;> first
  | exact wpAny_pure j
  | (cases u <;> first
    | exact wpAny_pure j
    | (refine aa (wpAny_load G ?_)
       rw [Y,U]
       show ax M A (if (["enumerate","zip","dict_itemiterator","dict_reverseitemiterator","odict_iterator","itertools.zip_longest","itertools.pairwise"].contains n && vs[0]? == some (cv _))=true then _ else _) Q E s
       rw [if_neg (by intro h;rw [I,Bool.false_and] at h;cases h)]
       exact wpAny_pure j))
noncomputable def Itl (K:af) (a:Addr):It :=
 ⟨λi H=>∃xs x,SqL K H a xs/\xs[i]? = some x,λi H x H'=>H'=H/\∀xs,SqL K H a xs->xs[i]? = some x,λi H=>∃xs,SqL K H a xs/\xs.length<=i⟩
noncomputable def Itt (K:af) (a:Addr):It :=
 ⟨λi H=>∃xs x,SqT K H a xs/\xs[i]? = some x,λi H x H'=>H'=H/\∀xs,SqT K H a xs->xs[i]? = some x,λi H=>∃xs,SqT K H a xs/\xs.length<=i⟩
noncomputable def Itr (lo:Int) (n:Nat):It:=⟨λi _=>i<n,λi H x H'=>H'=H/\x = .int (lo+i),λi _=>n<=i⟩
theorem YL {K:af}(a it:Addr):Turn P w K tg (Itl K a) [it] it (λi h=>h.IsListIter it a i) where
 mem:=by simp
 obj:=λi h st b hb=>by
  have e:b=it:=by simpa using hb
  subst e
  obtain ⟨o,e,c,d⟩:=st
  exact ⟨o,e,λv z=>by rw [d] at z;cases z⟩
 keep:=λi h h' st k=>st.at λo e=>k it (by simp) o e
 item:=by
  intro X hP hw hK hc i pins s σ H E I hf st hg
  subst hP hw hK
  obtain ⟨xs,x,hq,hx⟩:=hg
  obtain ⟨its,rv,p,hz⟩:=I.list hq
  obtain ⟨u,hu,ru⟩:=rv.get hx
  obtain ⟨f0,f1,f2,f3,f4,f5⟩:=hf it (by simp)
  refine ni st p.isList (x:=u) (by simpa using hu) λh' st' sb=>?_
  have I1:Inv X pins σ H { s with heap:=h' }:=I.turned (t':=s.toks) (λb o hb e=>(sb.2 b hb).trans e) f0 f1 f3 f4 f5
  obtain ⟨o,e,c,d⟩:=id st'
  exact ⟨u,rfl,QP (s:={ s with heap:=h' }) e c d ⋯ ⟨x,H,I1,ru,⟨rfl,λys hy=>by rw [I.list_inj hy hq];exact hx⟩,st',λb hb=>(hf b hb).1⟩⟩
 done:=by
  intro X hP hw hK hc i pins s σ H E I hf st hg
  subst hP hw hK
  obtain ⟨xs,hq,hx⟩:=hg
  obtain ⟨its,rv,p,hz⟩:=I.list hq
  obtain ⟨f0,f1,f2,f3,f4,f5⟩:=hf it (by simp)
  have hl:=rv.length
  exact om (I.ok.hd hc) st p.isList ↥94 λh' eb=>⟨rfl,I.turned (t':=s.toks) ↥123 f0 f1 f3 f4 f5⟩
 self:=λ_ _ _ _ _ st h=>wpAny_pyIter_listiter st h
theorem Zk {K:af}(a it:Addr):Turn P w K tg (Itt K a) [it] it (λi h=>h.IsTupleIter it a i) where
 mem:=by simp
 obj:=λi h st b hb=>by
  have e:b=it:=by simpa using hb
  subst e
  obtain ⟨o,e,c,d⟩:=st
  exact ⟨o,e,λv z=>by rw [d] at z;cases z⟩
 keep:=λi h h' st k=>st.at λo e=>k it (by simp) o e
 item:=by
  intro X hP hw hK hc i pins s σ H E I hf st hg
  subst hP hw hK
  obtain ⟨xs,x,hq,hx⟩:=hg
  obtain ⟨its,rv,p,hz⟩:=I.tuple hq
  obtain ⟨u,hu,ru⟩:=rv.get hx
  obtain ⟨f0,f1,f2,f3,f4,f5⟩:=hf it (by simp)
  refine wpAny_pyNext_tuple_item st (show s.heap.IsTuple a its.toArray from p) (x:=u) (by simpa using hu) λh' st' sb=>?_
  have I1:Inv X pins σ H { s with heap:=h' }:=I.turned (t':=s.toks) (λb o hb e=>(sb.2 b hb).trans e) f0 f1 f3 f4 f5
  obtain ⟨o,e,c,d⟩:=id st'
  exact ⟨u,rfl,QP (s:={ s with heap:=h' }) e c d ⋯ ⟨x,H,I1,ru,⟨rfl,λys hy=>by rw [I.tuple_inj hy hq];exact hx⟩,st',λb hb=>(hf b hb).1⟩⟩
 done:=by
  intro X hP hw hK hc i pins s σ H E I hf st hg
  subst hP hw hK
  obtain ⟨xs,hq,hx⟩:=hg
  obtain ⟨its,rv,p,hz⟩:=I.tuple hq
  obtain ⟨f0,f1,f2,f3,f4,f5⟩:=hf it (by simp)
  have hl:=rv.length
  exact wpAny_pyNext_tuple_end (I.ok.hd hc) st (show s.heap.IsTuple a its.toArray from p) ↥94 λh' eb=>⟨rfl,I.turned (t':=s.toks) ↥123 f0 f1 f3 f4 f5⟩
 self:=λ_ _ _ _ _ st h=>wpAny_pyIter_tupleiter st h
theorem kQ {K:af}(it:Addr) (lo:Int) (n:Nat):Turn P w K tg (Itr lo n) [it] it (λi h=>sH h it (lo+(i:Nat)*1) ((n:Int)-(i:Nat)) 1) where
 mem:=by simp
 obj:=λi h st b hb=>by
  have e:b=it:=by simpa using hb
  subst e
  exact ⟨_,st,λv z=>by
   have z':oH _=mQ v:=z
   cases z'⟩
 keep:=λi h h' st k=>k it (by simp) _ st
 item:=by
  intro X hP hw hK hc i pins s σ H E I hf st hg
  subst hP hw hK
  obtain ⟨f0,f1,f2,f3,f4,f5⟩:=hf it (by simp)
  have W:=Walks.range (prog:=X.prog) (w:=X.w) (I.ok.hd hc) it lo 1 n
  refine W.item i s _ _ hg st λv h' tk hv st' kk=>?_
  obtain ⟨t,rfl⟩:=hv
  have I1:Inv X pins σ H { s with heap:=h',toks:=tk }:=I.turned (λb o hb e=>kk b o (by simpa using hb) e) f0 f1 f3 f4 f5
  refine ⟨_,rfl,QP (s:={ s with heap:=h',toks:=tk }) (n:="range_iterator") st' rfl rfl ⋯ ⟨.int (lo+i),H,I1,⟨t,?_⟩,⟨rfl,rfl⟩,st',λb hb=>(hf b hb).1⟩⟩
  rw [Int.mul_one]
 done:=by
  intro X hP hw hK hc i pins s σ H E I hf st hg
  subst hP hw hK
  obtain ⟨f0,f1,f2,f3,f4,f5⟩:=hf it (by simp)
  exact wpAny_pyNext_range_end (I.ok.hd hc) st (by have:n<=i:=hg;omega) λh' eb=>⟨rfl,I.turned (t':=s.toks) ↥123 f0 f1 f3 f4 f5⟩
 self:=λ_ _ _ _ _ st h=>wpAny_pyIter_rangeiter st h
end L2
namespace L2
section
variable {X:Cx}{tg:Expr}
inductive iListI (K:af) (R:It->Hp->Prop) (x:V) (H1:Hp):Prop
 | mk (a:_) (_:x = .ref a) (_:(∃xs,SqL K H1 a xs)/\R (Itl K a) H1)
noncomputable def Wt (K:af) (tl:TE):TI:=λσ H R=>tl σ H λx H1=>iListI K R x H1
inductive iTupI (K:af) (R:It->Hp->Prop) (x:V) (H1:Hp):Prop
 | mk (a:_) (_:x = .ref a) (_:(∃xs,SqT K H1 a xs)/\R (Itt K a) H1)
noncomputable def Ef (K:af) (tl:TE):TI:=λσ H R=>tl σ H λx H1=>iTupI K R x H1
theorem Uz (j:PE X l tl):PI X tg l (Wt X.K tl):=by
 intro pins s σ H R I h
 refine thn ↥108 λv s1 ⟨x,H1,c,d,f⟩=>?_
 obtain ⟨a,e,⟨xs,g⟩,q⟩:=f
 subst e
 cases d
 obtain ⟨k,m,p,n⟩:=c.list g
 refine fL p.isList ?_
 refine ⟨s1.heap.objs.size,[s1.heap.objs.size],_,_,H1,rfl,c.kept (t':=s1.toks) λb o e=>ah _ e,YL a _,⟨_,aE _ rfl,rfl,rfl⟩,λb i=>?_,q⟩
 have e:b=s1.heap.objs.size:=by simpa using i
 subst e
 exact c.fpOk (ak _) (c.hok.fresh (ak _))
theorem GA (j:PE X l tl):PI X tg l (Ef X.K tl):=by
 intro pins s σ H R I h
 refine thn ↥108 λv s1 ⟨x,H1,c,f,g⟩=>?_
 obtain ⟨a,e,⟨xs,i⟩,q⟩:=g
 subst e
 cases f
 obtain ⟨d,m,p,n⟩:=c.tuple i
 refine pN (show s1.heap.IsTuple a d.toArray from p) ?_
 refine ⟨s1.heap.objs.size,[s1.heap.objs.size],_,_,H1,rfl,c.kept (t':=s1.toks) λb o e=>ah _ e,Zk a _,⟨_,aE _ rfl,rfl,rfl⟩,λb k=>?_,q⟩
 have e:b=s1.heap.objs.size:=by simpa using k
 subst e
 exact c.fpOk (ak _) (c.hok.fresh (ak _))
theorem QT {R:It->Hp->Prop}{lo hi:Int}{t:Tok}{tk:Nat}(I:Inv X pins σ H s) (h1 : -(2 ^ 62)<=lo) (h2:lo<2 ^ 62) (G : -(2 ^ 62)<=hi) (j:hi<2 ^ 62)
  (q:R (Itr lo (hi-lo).toNat) H):ax ↥6 X.A (oG ↥18) (PIE X pins σ tg R) E { s with heap:=s.heap.push { cls:=.type "range",data:=.fields #[.int lo t,.int hi u,.int 1 v] },toks:=tk }:=by
 refine pO (sI ..) (small_one h1 h2 G j) ?_
 have a:Inv X pins σ H { s with heap:=s.heap.push { cls:=.type "range",data:=.fields #[.int lo t,.int hi u,.int 1 v] },toks:=tk }:=I.kept λb o e=>ah _ e
 refine ⟨(↥9).objs.size,[(↥9).objs.size],_,_,H,rfl,
  a.kept (t':=tk) λb o e=>ah _ e,kQ _ lo (hi-lo).toNat,?_,λb c=>?_,q⟩
 ·have f:lo+((0:Nat):Int)*1=lo:=by simp
  have d:(((hi-lo).toNat:Nat):Int)-((0:Nat):Int)=mR lo hi 1:=by rw [tR];split <;> omega
  show sH _ _ (lo+((0:Nat):Int)*1) ((((hi-lo).toNat:Nat):Int)-((0:Nat):Int)) 1
  rw [f,d]
  exact aE _ rfl
 ·have e:b=(↥9).objs.size:=by simpa using c
  subst e
  exact a.fpOk (ak _) (a.hok.fresh (ak _))
inductive iRng1I (R:It->Hp->Prop) (vs:List V) (H1:Hp):Prop
 | mk (j:Int) (_:vs=[.int j]) (_ : -(2 ^ 62)<=j/\j<2 ^ 62/\R (Itr 0 j.toNat) H1)
noncomputable def GS (ta:TA):TI:=λσ H R=>ta σ H λa H1=>iRng1I R a H1
inductive iRng2I (R:It->Hp->Prop) (vs:List V) (H1:Hp):Prop
 | mk (i j:Int) (_:vs=[.int i,.int j]) (_:(-(2 ^ 62)<=i/\i<2 ^ 62 /\ -(2 ^ 62)<=j/\j<2 ^ 62)) (_:R (Itr i (j-i).toNat) H1)
noncomputable def GM (ta:TA):TI:=λσ H R=>ta σ H λa H1=>iRng2I R a H1
theorem qy {a:Expr}{p pos:Pos}(Y:Gl X "range") (U:X.mg "range" = none) (ha:PA X [a] ta) (G:aU [a] X.env=[(false,eval a X.env)]:=by rfl):PI X tg (.Call (.Name "range" p) [a] [] pos) (GS ta):=by
 intro pins s σ H R I h
 refine Am (yG I Y U t6 (cx (thn ↥52 λk s1 ⟨i,H1,g,d,b⟩=>?_) G rfl))
 obtain ⟨j,e,b,f,q⟩:=b
 subst e
 cases d with
 | cons r c =>
  cases c
  obtain ⟨t,rfl⟩:=r
  exact call_range_1 (QT g ∅ ∅ b f (by simpa using q))
theorem wD {a b:Expr}{p pos:Pos}(hg:Gl X "range") (Y:X.mg "range" = none) (ha:PA X [a,b] ta) (U:aU [a,b] X.env=[(false,eval a X.env),(false,eval b X.env)]:=by rfl) (G:aU [b] X.env=[(false,eval b X.env)]:=by rfl) :
  PI X tg (.Call (.Name "range" p) [a,b] [] pos) (GM ta):=by
 intro pins s σ H R I h
 refine Am (yG I hg Y t6 (cx (thn ↥52 λu s1 ⟨o,H1,n,f,d⟩=>?_) (by rw [U,G]) (by rw [G];rfl)))
 obtain ⟨i,j,e,⟨d,m,l,k⟩,q⟩:=d
 subst e
 cases f with
 | cons r c =>
  cases c with
  | cons g c =>
   cases c
   obtain ⟨t,rfl⟩:=r
   obtain ⟨v,rfl⟩:=g
   exact call_range_2 (QT n d m l k q)
noncomputable def tFor (j:TI) (g:TG) (tb:TS):TS:=λD σ H=>j σ H λJ H1=>∃W:Nat->Nat->St->Hp->Prop,(∃m,W 0 m σ H1)/\∀i m σ H,W i m σ H ->
 (J.stop i H/\D.nx σ H)\/(J.go i H/\∃N:St->Hp->Prop,(∀a H',N a H'->∃b,b<m/\W (i+1) b a H')/\∀x H',J.yld i H x H'->g x σ H' λc H2=>tb { D with nx:=N,ct:=N,bk:=D.nx } c H2)
noncomputable def zF (j:List Addr) (h:Heap):List (Addr×Obj):=j.filterMap λb=>(h.get? b).map λo=>(b,o)
theorem qV {j:List Addr}{h:Heap}{b:Addr}(G:b∈j) (e:h.get? b=some o):(b,o)∈zF j h:=List.mem_filterMap.mpr ⟨b,G,by rw [e];rfl⟩
theorem Yw {p:Addr×Obj}(j:p∈zF G h):p.1∈G/\h.get? p.1=some p.2:=by
 obtain ⟨b,a,e⟩:=List.mem_filterMap.mp j
 cases q:h.get? b with
 | none=>rw [q] at e;cases e
 | some o =>
  rw [q] at e
  have c:(b,o)=p:=bB e
  subst c
  exact ⟨a,q⟩
theorem Inv.pinned {s:Shared}{j:List Addr}(I:Inv X pins σ H s) (U:∀b∈j,wE X pins H b) (G:∀b∈j,∃o,s.heap.get? b=some o/\∀v,o.data≠.cell v):Inv X (pins++zF j s.heap) σ H s :=
 I.pins_of λp f=>(List.mem_append.mp f).elim (λz=>I.pin p (aJ _ z)) λz=>by
  obtain ⟨a,e⟩:=Yw z
  obtain ⟨i,h,g,_⟩:=U p.1 a
  obtain ⟨o,c,d⟩:=G p.1 a
  rw [e] at c;cases c
  exact ⟨e,i,h,g,d⟩
theorem Inv.unpinned {pins pl:List (Addr×Obj)}{s:Shared}(I:Inv X (pins++pl) σ H s):Inv X pins σ H s:=I.pins_of λp a=>I.pin p (aJ _ (cc _ a))
theorem qA {pos:Pos}(G:PassesOwn ↥6 X.A X.env X.xe) (U:X.calm=true) (hi:PI X tg iter wi) (hg:PG X tg g) (j:PSs X body tb)
  (hs:∀x,cY iter X.env x=pure x:=by intro _;rfl):PS X (.For tg iter body [] pos) (tFor wi g tb):=by
 intro pins s σ H D I h
 refine wpAny_For (thn (hi pins s σ H _ I h) λv s1 h1=>thn h1 λab s2 h2=>?_) hs
 obtain ⟨it,z,O,J,H2,e,I2,T,P,V,W,⟨m0,w0⟩,E⟩:=h2
 subst e
 have l:∀{H':Hp},(∀b∈z,H' b=none)->∀b∈z,wE X pins H' b:=λhn b j=>⟨hn b j,(V b j).2⟩
 refine codeAny_forLoop_any (λn s'=>∃i q H',Inv X pins q H' s'/\O i s'.heap/\(∀b∈z,H' b=none)/\W i n q H') ?_ m0 ⟨0,σ,H2,I2,P,λb j=>(V b j).1,w0⟩
 rintro n R ⟨i,p,B,Z,C,fr3,w3⟩
 rcases E i n p B w3 with ⟨K,qn⟩ | ⟨go,N,hN,step⟩
 ·refine eA G (thn (T.done X rfl rfl rfl U i pins R p B X.xe Z (l fr3) C K) λr s4 ⟨M,I4⟩=>?_)
  subst M
  exact lg ⟨p,B,I4,qn⟩
 ·refine eA G (thn (T.item X rfl rfl rfl U i pins R p B X.xe Z (l fr3) C go) λr s4 ⟨u,M,h4⟩=>?_)
  subst M
  refine eA G (thn h4 λ_ Q ⟨x,H5,I5,r5,y5,t,S⟩=>?_)
  have Y:=I5.pinned (l S) (T.obj _ _ t)
  refine eA G (thn (hg _ Q p H5 x u _ Y r5 (step x H5 y5)) λ_ s6 ⟨σ6,H6,I6,q6⟩=>?_)
  refine eA G (thn (j _ s6 σ6 H6 _ I6 q6) λf L k=>?_)
  have again:∀{a:St} {H7:Hp},Inv X (pins++zF z Q.heap) a H7 L->N a H7->∃m,m<n/\∃i q H',Inv X pins q H' L/\O i L.heap/\(∀b∈z,H' b=none)/\W i m q H':=λ{a H7} c y=>by
   obtain ⟨m',hm,w7⟩:=hN a H7 y
   refine ⟨m',hm,i+1,a,H7,c.unpinned,T.keep _ _ _ t λb j o e=>(c.pin (b,o) (aJ _ (aJ _ (qV j e)))).1,λb j=>?_,w7⟩
   obtain ⟨o,e,d⟩:=T.obj _ _ t b j
   exact (c.pin (b,o) (aJ _ (aJ _ (qV j e)))).2.1
  cases f with
  | next=>obtain ⟨a,H7,c,y⟩:=k;exact again c y
  | cont=>obtain ⟨a,H7,c,y⟩:=k;exact again c y
  | brk=>obtain ⟨a,H7,c,k⟩:=k;exact ⟨a,H7,c.unpinned,k⟩
  | ret v=>obtain ⟨x7,a,H7,c,r7,k⟩:=k;exact ⟨x7,a,H7,c.unpinned,r7,k⟩
end
theorem yf {K:af}{xs:List V}{g:TG}{tb:TS}{D:Ends}{σ:St}{H:Hp}(Pv:Nat->St->Hp->Prop) (h0:Pv 0 σ H) (Y:∀i σ H,i<=xs.length->Pv i σ H->SqL K H a xs)
  (U:∀i x σ H,xs[i]? = some x->Pv i σ H->g x σ H λj H2=>tb { D with nx:=Pv (i+1),ct:=Pv (i+1),bk:=D.nx } j H2) (hd:∀σ H,Pv xs.length σ H->D.nx σ H) :
  ∃W:Nat->Nat->St->Hp->Prop,↥76/\∀i m σ H,W i m σ H ->
   ((Itl K a).stop i H/\D.nx σ H)\/((Itl K a).go i H/\∃N:St->Hp->Prop,↥73/\∀x H',(Itl K a).yld i H x H'->g x σ H' λj H2=>tb { D with nx:=N,ct:=N,bk:=D.nx } j H2):=by
 refine ⟨λi m σ H=>m=xs.length-i/\i<=xs.length/\Pv i σ H,⟨xs.length,by simp,aB _,h0⟩,?_⟩
 rintro i m σ H ⟨rfl,hi,p⟩
 have q:=Y i σ H hi p
 by_cases b:i<xs.length
 ·refine .inr ⟨⟨xs,xs[i],q,by simp [b]⟩,Pv (i+1),λG H' c=>⟨xs.length-(i+1),∅,rfl,b,c⟩,λx H' y=>?_⟩
  obtain ⟨e,y⟩:=y
  subst e
  exact U i x σ _ (y xs q) p
 ·have e:i=xs.length:=∅
  subst e
  exact .inl ⟨⟨xs,q,ak _⟩,hd σ H p⟩
theorem UV {K:af}{xs:List V}{g:TG}{tb:TS}{D:Ends}{σ:St}{H:Hp}(Pv:Nat->St->Hp->Prop) (h0:Pv 0 σ H) (Y:∀i σ H,i<=xs.length->Pv i σ H->SqT K H a xs)
  (U:∀i x σ H,xs[i]? = some x->Pv i σ H->g x σ H λj H2=>tb { D with nx:=Pv (i+1),ct:=Pv (i+1),bk:=D.nx } j H2) (hd:∀σ H,Pv xs.length σ H->D.nx σ H) :
  ∃W:Nat->Nat->St->Hp->Prop,↥76/\∀i m σ H,W i m σ H ->
   ((Itt K a).stop i H/\D.nx σ H)\/((Itt K a).go i H/\∃N:St->Hp->Prop,↥73/\∀x H',(Itt K a).yld i H x H'->g x σ H' λj H2=>tb { D with nx:=N,ct:=N,bk:=D.nx } j H2):=by
 refine ⟨λi m σ H=>m=xs.length-i/\i<=xs.length/\Pv i σ H,⟨xs.length,by simp,aB _,h0⟩,?_⟩
 rintro i m σ H ⟨rfl,hi,p⟩
 have q:=Y i σ H hi p
 by_cases b:i<xs.length
 ·refine .inr ⟨⟨xs,xs[i],q,by simp [b]⟩,Pv (i+1),λG H' c=>⟨xs.length-(i+1),∅,rfl,b,c⟩,λx H' y=>?_⟩
  obtain ⟨e,y⟩:=y
  subst e
  exact U i x σ _ (y xs q) p
 ·have e:i=xs.length:=∅
  subst e
  exact .inl ⟨⟨xs,q,ak _⟩,hd σ H p⟩
theorem qI {lo:Int}{n:Nat}{g:TG}{tb:TS}{D:Ends}{σ:St}{H:Hp}(Pv:Nat->St->Hp->Prop) (h0:Pv 0 σ H)
  (U:∀i σ H,i<n->Pv i σ H->g (.int (lo+i)) σ H λj H2=>tb { D with nx:=Pv (i+1),ct:=Pv (i+1),bk:=D.nx } j H2) (Y:∀σ H,Pv n σ H->D.nx σ H) :
  ∃W:Nat->Nat->St->Hp->Prop,↥76/\∀i m σ H,W i m σ H ->
   ((Itr lo n).stop i H/\D.nx σ H)\/((Itr lo n).go i H/\∃N:St->Hp->Prop,↥73/\∀x H',(Itr lo n).yld i H x H'->g x σ H' λj H2=>tb { D with nx:=N,ct:=N,bk:=D.nx } j H2):=by
 refine ⟨λi m σ H=>m=n-i/\i<=n/\Pv i σ H,⟨n,by simp,aB _,h0⟩,?_⟩
 rintro i m σ H ⟨rfl,hi,p⟩
 by_cases a:i<n
 ·refine .inr ⟨a,Pv (i+1),λG H' b=>⟨n-(i+1),∅,rfl,a,b⟩,λx H' y=>?_⟩
  obtain ⟨e,y⟩:=y
  subst e y
  exact U i σ _ a p
 ·have e:i=n:=∅
  subst e
  exact .inl ⟨ak _,Y σ H p⟩
theorem XH {c:TT}{tb:TS}{D:Ends}{σ:St}{H:Hp}(Pv:St->Hp->Prop) (μ:St->Hp->Nat) (U:Pv σ H)
  (I:∀σ H,Pv σ H->c σ H λb H1=>if b=true then tb { D with nx:=λj H'=>Pv j H'/\μ j H'<μ σ H,ct:=λj H'=>Pv j H'/\μ j H'<μ σ H,bk:=D.nx } σ H1 else D.nx σ H1)
  (mono:∀σ H Q G,(∀b H1,Q b H1->G b H1)->c σ H Q->c σ H G):Vd c tb D σ H:=by
 refine ⟨λm σ H=>m=μ σ H/\Pv σ H,⟨_,rfl,U⟩,?_⟩
 rintro m σ H ⟨rfl,p⟩
 refine mono σ H _ _ (λb H1 q=>?_) (I σ H p)
 cases b with
 | true=>exact ⟨_,λj H' ⟨a,l⟩=>⟨_,l,rfl,a⟩,q⟩
 | false=>exact q
end L2
namespace L2
noncomputable abbrev R2:=V->V->Hp->VK->Prop
noncomputable def OpR (X:Cx) (f:ai->ai->Sem ai) (r:R2):Prop :=
 ∀(pins:List (Addr×Obj)) (s:Shared) (σ:St) (H:Hp) (x y:V) (v u:ai) (Q:VK),Inv X pins σ H s->jE x v->jE y u->r x y H Q ->
  ax ↥6 X.A (f v u) ↥62 X.xe s
noncomputable def UnR (X:Cx) (f:ai->Sem ai) (r:V->Hp->VK->Prop):Prop :=
 ∀(pins:List (Addr×Obj)) (s:Shared) (σ:St) (H:Hp) (x:V) (v:ai) (Q:VK),Inv X pins σ H s->jE x v->r x H Q ->
  ax ↥6 X.A (f v) ↥62 X.xe s
noncomputable def xf (X:Cx) (f:ai) (r:List V->Hp->VK->Prop):Prop :=
 ∀(pins:List (Addr×Obj)) (s:Shared) (σ:St) (H:Hp) (xs:List V) (a:List ai) (Q:VK),Inv X pins σ H s->jG xs a->r xs H Q ->
  ax ↥6 X.A (call f a) ↥62 X.xe s
noncomputable def tOp (r:R2) (ta tb:TE):TE:=λσ H Q=>ta σ H λx H1=>tb σ H1 λy H2=>r x y H2 Q
noncomputable def tUn (r:V->Hp->VK->Prop) (ta:TE):TE:=λσ H Q=>ta σ H λx H1=>r x H1 Q
inductive rI (C:Int->Int->Prop) (g:Int->Int->V) (x:V) (y:V) (H:Hp) (Q:VK):Prop
 | mk (i:_) (j:_) (_:x = .int i) (_:y = .int j) (_:C i j/\Q (g i j) H)
inductive rI0 (g:Int->Int->V) (x:V) (y:V) (H:Hp) (Q:VK):Prop
 | mk (i:_) (j:_) (_:x = .int i) (_:y = .int j) (_:Q (g i j) H)
inductive rU (g:Int->V) (x:V) (H:Hp) (Q:VK):Prop
 | mk (i:_) (_:x = .int i) (_:Q (g i) H)
section
variable {X:Cx}{a b c:Expr}{ta tb tc:TE}{pos:Pos}
theorem G8 (ha:PE X a ta) (hb:PE X b tb) {s:Shared}{σ:St}{R:V->V->Hp->Prop}(I:Inv X pins σ H s)
  (h:ta σ H λx H1=>tb σ H1 λy H2=>R x y H2) {Q:ai->Shared->Prop} {f:ai->ai->Sem ai}
  (Y:∀v u j x y H2,Inv X pins σ H2 j->jE x v->jE y u->R x y H2->ax ↥6 X.A (f v u) Q X.xe j) :
  ax ↥6 X.A (eval a X.env) (λv U=>ax ↥6 X.A (eval b X.env) (λu G=>ax ↥6 X.A (f v u) Q X.xe G) X.xe U) X.xe s:=by
 refine thn (ha pins s σ H _ I h) λv s1 ⟨x,H1,k,d,g⟩=>?_
 refine thn (hb pins s1 σ H1 _ k g) λu j ⟨y,H2,i,c,e⟩=>?_
 exact Y v u j x y H2 i d c e
theorem jr (G:OpR X (iX j) r) (Y:PE X a ta) (U:PE X b tb):PE X (.BinOp a j b pos) (tOp r ta tb):=by
 intro pins s σ H Q I h
 exact wpAny_BinOp (G8 Y U I h λv u c x y H2 f e d q=>G pins c σ H2 x y v u Q f e d q)
theorem kZ (G:UnR X (unaryOp j) r) (U:PE X a ta):PE X (.UnaryOp j a pos) (tUn r ta):=by
 intro pins s σ H Q I h
 exact UnaryOp_ (thn (U pins s σ H _ I h) λv s1 ⟨x,H1,d,b,c⟩=>G pins s1 σ H1 x v Q d b c)
theorem opI {f:ai->ai->Sem ai}{C:Int->Int->Prop}{g:Int->Int->Int}
  (rule:∀(i j:Int) (t u:Tok) (s:Shared) (Q:ai->Shared->Prop) (E:ai->Shared->Prop),C i j->Q (.int (g i j) s.toks) { s with toks:=s.toks+1 }->ax ↥6 X.A (f (.int i t) (.int j u)) Q E s) :
  OpR X f (rI C λi j=>.int (g i j)):=by
 intro pins s σ H x y v u Q I c b h
 obtain ⟨i,j,rfl,rfl,d,q⟩:=h
 obtain ⟨t,rfl⟩:=c
 obtain ⟨a,rfl⟩:=b
 exact rule i j t a s _ _ d ⟨.int (g i j),H,I.tok _,⟨_,rfl⟩,q⟩
theorem E8 {f:ai->ai->Sem ai}{g:Int->Int->Int}
  (rule:∀(i j:Int) (t u:Tok) (s:Shared) (Q:ai->Shared->Prop) (E:ai->Shared->Prop),Q (.int (g i j) s.toks) { s with toks:=s.toks+1 }->ax ↥6 X.A (f (.int i t) (.int j u)) Q E s) :
  OpR X f (rI0 λi j=>.int (g i j)):=by
 intro pins s σ H x y v u Q I c b h
 obtain ⟨i,j,rfl,rfl,q⟩:=h
 obtain ⟨t,rfl⟩:=c
 obtain ⟨a,rfl⟩:=b
 exact rule i j t a s _ _ ⟨.int (g i j),H,I.tok _,⟨_,rfl⟩,q⟩
theorem Us {f:ai->ai->Sem ai}{g:Int->Int->Bool}
  (rule:∀(i j:Int) (t u:Tok) (s:Shared) (Q:ai->Shared->Prop) (E:ai->Shared->Prop),Q (.bool (g i j)) s->ax ↥6 X.A (f (.int i t) (.int j u)) Q E s) :
  OpR X f (rI0 λi j=>.bl (g i j)):=by
 intro pins s σ H x y v u Q I c b h
 obtain ⟨i,j,rfl,rfl,q⟩:=h
 obtain ⟨t,rfl⟩:=c
 obtain ⟨a,rfl⟩:=b
 exact rule i j t a s _ _ ⟨.bl (g i j),H,I,rfl,q⟩
noncomputable def Ee (i j:Int):Prop:=0<=j/\j<=1000000/\i.natAbs<2 ^ 64
noncomputable def Vb (i j:Int):Prop:=(-(2 ^ 64)<i/\i<2 ^ 64)\/(-(2 ^ 64)<j/\j<2 ^ 64)
theorem Vb.ok {i j:Int}(h:Vb i j):IntMulOk i j:=by
 rcases h with ⟨h1,h2⟩ | ⟨h1,h2⟩
 ·exact .of_left (tS h1 h2)
 ·exact .of_right (tS h1 h2)
theorem jL:OpR X (iX .Add) (rI0 λi j=>.int (i+j)):=E8 λ_ _ _ _ _ _ _ q=>add_int q
theorem qO:OpR X (iX .Sub) (rI0 λi j=>.int (i-j)):=E8 λ_ _ _ _ _ _ _ q=>sub_int q
theorem wo:OpR X (iX .Mult) (rI Vb λi j=>.int (i*j)):=opI λ_ _ _ _ _ _ _ a q=>mul_int q a.ok
theorem xT:OpR X (iX .Mod) (rI (λ_ j=>0<j) λi j=>.int (i % j)):=opI λi j _ _ _ _ _ a q=>by
 have h1:(0:Int)<j:=a
 exact mod_int' ∅ (by rw [Int.fmod_eq_emod_of_nonneg i ∅];exact q)
theorem Gk:OpR X (iX .Pow) (rI Ee λi j=>.int (i ^ j.toNat)):=opI λ_ _ _ _ _ _ _ a q=>pow_int_small a.1 a.2.1 a.2.2 q
theorem unI {f:ai->Sem ai}{g:Int->Int}
  (rule:∀(i:Int) (t:Tok) (s:Shared) (Q:ai->Shared->Prop) (E:ai->Shared->Prop),Q (.int (g i) s.toks) { s with toks:=s.toks+1 }->ax ↥6 X.A (f (.int i t)) Q E s) :
  UnR X f (rU λi=>.int (g i)):=by
 intro pins s σ H x v Q I a h
 obtain ⟨i,rfl,q⟩:=h
 obtain ⟨t,rfl⟩:=a
 exact rule i t s _ _ ⟨.int (g i),H,I.tok _,⟨_,rfl⟩,q⟩
theorem vY:UnR X (unaryOp .USub) (rU λi=>.int (-i)):=unI λ_ _ _ _ _ q=>neg_int q
end
noncomputable def E3:V->V->Bool
 | .non,.non=>true | .non,.int _=>true | .int _,.non=>true | .non,.bl _=>true | .bl _,.non=>true | .non,.str _=>true | .str _,.non=>true
 | .int _,.int _=>true | .bl _,.bl _=>true | .str _,.str _=>true | .byt _,.byt _=>true
 | .int _,.str _=>true | .str _,.int _=>true | .bl _,.str _=>true | .str _,.bl _=>true
 | _,_=>false
noncomputable def rEq:R2:=λx y H Q=>E3 x y=true/\Q (.bl (decide (x=y))) H
noncomputable def rNe:R2:=λx y H Q=>E3 x y=true/\Q (.bl (!decide (x=y))) H
theorem ZT {i j:Int}:decide (V.int i=V.int j)=(i == j):=by
 rw [fA]
 simp
theorem VL {i j:Bool}:decide (V.bl i=V.bl j)=(i == j):=by
 rw [fA]
 simp
theorem ZO :decide (V.str i=V.str j)=(i == j):=by
 rw [fA]
 simp
theorem Y2 :decide (V.byt i=V.byt j)=(i.toList == j.toList):=by
 rw [fA]
 cases i
 cases j
 simp
section
variable {X:Cx}{a b c:Expr}{ta tb tc:TE}{pos:Pos}
theorem jM {Q:VK}{k j:Bool}(I:Inv X pins σ H s) (q:Q (.bl k) H) (e:k=j):EP X pins σ Q (.bool j) s:=by
 subst e
 exact ⟨.bl k,H,I,rfl,q⟩
theorem xA:OpR X (cg .Eq) rEq:=by
 intro pins s σ H x y v u Q I d a h
 obtain ⟨c,q⟩:=h
 cases x with
 | non =>
  cases d
  cases y with
  | non=>cases a;exact PySem.EqNone.eq_none_none ↥25
  | bl j=>cases a;exact PySem.EqNone.eq_none_bool ↥25
  | int j=>obtain ⟨b,rfl⟩:=a;exact PySem.EqNone.eq_none_int ↥25
  | str j=>obtain ⟨b,rfl⟩:=a;exact PySem.EqNone.eq_none_str ↥25
  | _=>exact absurd (show false=true from c) aq
 | bl i =>
  cases d
  cases y with
  | non=>cases a;exact PySem.EqNone.eq_bool_none ↥25
  | bl j=>cases a;exact eq_bool (jM I q VL)
  | str j=>obtain ⟨b,rfl⟩:=a;exact PySem.EqMixed.eq_bool_str ↥25
  | _=>exact absurd (show false=true from c) aq
 | int i =>
  obtain ⟨t,rfl⟩:=d
  cases y with
  | non=>cases a;exact PySem.EqNone.eq_int_none ↥25
  | int j=>obtain ⟨b,rfl⟩:=a;exact eq_int (jM I q ZT)
  | str j=>obtain ⟨b,rfl⟩:=a;exact PySem.EqMixed.eq_int_str ↥25
  | _=>exact absurd (show false=true from c) aq
 | str i =>
  obtain ⟨t,rfl⟩:=d
  cases y with
  | non=>cases a;exact PySem.EqNone.eq_str_none ↥25
  | bl j=>cases a;exact PySem.EqMixed.eq_str_bool ↥25
  | int j=>obtain ⟨b,rfl⟩:=a;exact PySem.EqMixed.eq_str_int ↥25
  | str j=>obtain ⟨b,rfl⟩:=a;exact eq_str (jM I q ZO)
  | _=>exact absurd (show false=true from c) aq
 | byt i =>
  obtain ⟨t,rfl⟩:=d
  cases y with
  | byt j=>obtain ⟨b,rfl⟩:=a;exact PySem.W.eq_bytes (jM I q Y2)
  | _=>exact absurd (show false=true from c) aq
 | _=>cases y <;> exact absurd (show false=true from c) aq
theorem Vk:OpR X (cg .NotEq) rNe:=by
 intro pins s σ H x y v u Q I d a h
 obtain ⟨c,q⟩:=h
 cases x with
 | non =>
  cases d
  cases y with
  | non=>cases a;exact PySem.EqNone.ne_none_none ↥25
  | bl j=>cases a;exact PySem.EqNone.ne_none_bool ↥25
  | int j=>obtain ⟨b,rfl⟩:=a;exact PySem.EqNone.ne_none_int ↥25
  | str j=>obtain ⟨b,rfl⟩:=a;exact PySem.EqNone.ne_none_str ↥25
  | _=>exact absurd (show false=true from c) aq
 | bl i =>
  cases d
  cases y with
  | non=>cases a;exact PySem.EqNone.ne_bool_none ↥25
  | bl j=>cases a;exact ne_bool (jM I q (congrArg not VL))
  | str j=>obtain ⟨b,rfl⟩:=a;exact PySem.EqMixed.ne_bool_str ↥25
  | _=>exact absurd (show false=true from c) aq
 | int i =>
  obtain ⟨t,rfl⟩:=d
  cases y with
  | non=>cases a;exact PySem.EqNone.ne_int_none ↥25
  | int j=>obtain ⟨b,rfl⟩:=a;exact ne_int (jM I q (congrArg not ZT))
  | str j=>obtain ⟨b,rfl⟩:=a;exact PySem.EqMixed.ne_int_str ↥25
  | _=>exact absurd (show false=true from c) aq
 | str i =>
  obtain ⟨t,rfl⟩:=d
  cases y with
  | non=>cases a;exact PySem.EqNone.ne_str_none ↥25
  | bl j=>cases a;exact PySem.EqMixed.ne_str_bool ↥25
  | int j=>obtain ⟨b,rfl⟩:=a;exact PySem.EqMixed.ne_str_int ↥25
  | str j=>obtain ⟨b,rfl⟩:=a;exact ne_str (jM I q (congrArg not ZO))
  | _=>exact absurd (show false=true from c) aq
 | byt i =>
  obtain ⟨t,rfl⟩:=d
  cases y with
  | byt j=>obtain ⟨b,rfl⟩:=a;exact PySem.W.ne_bytes (jM I q (congrArg not Y2))
  | _=>exact absurd (show false=true from c) aq
 | _=>cases y <;> exact absurd (show false=true from c) aq
theorem vK:OpR X (cg .Lt) (rI0 λi j=>.bl (decide (i<j))):=Us λ_ _ _ _ _ _ _ q=>lt_int q
theorem qC:OpR X (cg .LtE) (rI0 λi j=>.bl (decide (i<=j))):=Us λ_ _ _ _ _ _ _ q=>le_int q
theorem QG:OpR X (cg .Gt) (rI0 λi j=>.bl (decide (j<i))):=Us λ_ _ _ _ _ _ _ q=>gt_int q
theorem QX:OpR X (cg .GtE) (rI0 λi j=>.bl (decide (j<=i))):=Us λ_ _ _ _ _ _ _ q=>ge_int q
theorem Z6:OpR X (cg .Is) (λx y H Q=>y = .non/\Q (.bl (decide (x = .non))) H):=by
 intro pins s σ H x y v u Q I a b h
 obtain ⟨rfl,q⟩:=h
 cases b
 refine is_none_gen (jM I q ?_)
 cases x <;> first
  | (cases a;rfl)
  | (obtain ⟨t,rfl⟩:=a;rfl)
theorem UC:OpR X (cg .IsNot) (λx y H Q=>y = .non/\Q (.bl (!decide (x = .non))) H):=by
 intro pins s σ H x y v u Q I a b h
 obtain ⟨rfl,q⟩:=h
 cases b
 refine isnot_none_gen (jM I q ?_)
 cases x <;> first
  | (cases a;rfl)
  | (obtain ⟨t,rfl⟩:=a;rfl)
theorem jw (b:Expr) {j:CmpOp}(h:j≠.In:=by decide) (h2:j≠.NotIn:=by decide):fE j b=false:=by
 have c:(j == CmpOp.In)=false:=by cases j <;> first | rfl | exact absurd rfl h
 have a:(j == CmpOp.NotIn)=false:=by cases j <;> first | rfl | exact absurd rfl h2
 cases b <;> simp [fE,c,a]
theorem zP (G:OpR X (cg j) r) (ha:PE X a ta) (Y:PE X b tb) (U:fE j b=false):PE X (.Compare a [j] [b] pos) (tOp r ta tb):=by
 intro pins s σ H Q I h
 exact wpAny_Compare1 (G8 ha Y I h λv u c x y H2 f e d q=>G pins c σ H2 x y v u Q f e d q) U
inductive tTestI (Q:Bool->Hp->Prop) (x:V) (H':Hp):Prop
 | mk (k:_) (_:x = .bl k) (_:Q k H')
noncomputable def Xv (t:TE):TT:=λσ H Q=>t σ H λx H'=>tTestI Q x H'
theorem jq (G:OpR X (cg j) r) (ha:PE X a ta) (Y:PE X b tb) (U:fE j b=false):PT X (.Compare a [j] [b] pos) (Xv (tOp r ta tb)):=by
 intro pins s σ H Q I h
 refine oj (thn (ha pins s σ H _ I h) λv s1 ⟨x,H1,q,i,n⟩=>thn (Y pins s1 σ H1 _ q n) λu d ⟨y,H2,p,g,m⟩ =>
  thn (G pins d σ H2 x y v u _ p i g m) λc w ⟨z,t,o,f,k,e,l⟩=>?_) U
 subst e
 cases f
 exact cw ⟨t,o,l⟩
noncomputable def VX (r j:R2) (ta tb tc:TE):TE:=λσ H Q=>ta σ H λx H1=>tb σ H1 λy H2=>r x y H2 λz a=>∃k,z = .bl k /\
 (if k=true then tc σ a λb c=>j y b c Q else Q (.bl false) a)
theorem yn (ho:OpR X (cg G) r) (U:OpR X (cg j) Y) (ha:PE X a ta) (hb:PE X b tb) (hc:PE X c tc)
  (hm:lastMarks [G,j] [b,c]=false:=by with_unfolding_all rfl):PE X (.Compare a [G,j] [b,c] pos) (VX r Y ta tb tc):=by
 intro pins s σ H Q I h
 refine Compare_chain (thn (ha pins s σ H _ I h) λv s1 ⟨x,H1,K,A,D⟩=>chain_link (thn (hb pins s1 σ H1 _ K D) λu q ⟨y,H2,J,f,C⟩ =>
  thn (ho pins q σ H2 x y v u _ J A f C) λd p ⟨z,l,i,w,k,e,g⟩=>?_)) hm
 subst e
 cases w
 refine cw ?_
 cases k with
 | false=>exact ite_ff ⟨.bl false,l,i,rfl,g⟩
 | true=>exact ite_tt (chain_last (thn (hc pins p σ l _ i g) λn o ⟨m,L,E,t,B⟩=>U pins o σ L y m u n Q E f t B))
theorem zf (ho:OpR X (cg G) r) (U:OpR X (cg j) Y) (ha:PE X a ta) (hb:PE X b tb) (hc:PE X c tc)
  (hm:lastMarks [G,j] [b,c]=false:=by with_unfolding_all rfl):PT X (.Compare a [G,j] [b,c] pos) (Xv (VX r Y ta tb tc)):=by
 intro pins s σ H Q I h
 refine isTrue_chain (thn (ha pins s σ H _ I h) λv s1 ⟨x,H1,R,B,J⟩=>test_link (thn (hb pins s1 σ H1 _ R J) λu q ⟨y,H2,P,f,E⟩ =>
  thn (ho pins q σ H2 x y v u _ P B f E) λd p ⟨z,l,i,A,k,e,g⟩=>?_)) hm
 subst e
 cases A
 refine cw ?_
 cases k with
 | false =>
  obtain ⟨k',M,K⟩:=g
  cases M
  exact ite_ff ⟨l,i,K⟩
 | true =>
  refine ite_tt (test_last (thn (hc pins p σ l _ i g) λn o ⟨m,S,O,w,D⟩=>thn (U pins o σ S y m u n _ O f w D) λd' V ⟨T,H5,N,t,Z,L,C⟩=>?_))
  subst L
  cases t
  exact cw ⟨H5,N,C⟩
theorem gk:(sizeLine:Nat)<2 ^ 63:=by rw [bE];decide
theorem vq {x:V}(r:jG [x] us):∃u,us=[u]/\jE x u:=by
 cases r with
 | cons b a=>cases a;exact ⟨_,rfl,b⟩
theorem ZW {x y:V}(r:jG [x,y] us):∃u w',us=[u,w']/\jE x u/\jE y w':=by
 cases r with
 | cons d c =>
  cases c with
  | cons b a=>cases a;exact ⟨_,_,rfl,d,b⟩
inductive cI_call_max2 (xs:List V) (H:Hp) (Q:VK):Prop
 | mk (i:_) (j:_) (_:xs=[.int i,.int j]) (_:Q (.int (if j > i then j else i)) H)
theorem zA (G:X.calm=true):xf X (.builtin "max") cI_call_max2:=by
 intro pins s σ H xs c Q I r h
 obtain ⟨i,j,rfl,q⟩:=h
 obtain ⟨u,b,rfl,⟨t,rfl⟩,⟨d,rfl⟩⟩:=ZW r
 refine max_two_ints (I.ok.hd G) λh' tk k=>⟨_,H,I.kept k,?_,q⟩
 by_cases a:j > i
 ·rw [if_pos a,if_pos a];exact ⟨_,rfl⟩
 ·rw [if_neg a,if_neg a];exact ⟨_,rfl⟩
inductive cI_call_min2 (xs:List V) (H:Hp) (Q:VK):Prop
 | mk (i:_) (j:_) (_:xs=[.int i,.int j]) (_:Q (.int (if j<i then j else i)) H)
theorem w5 (G:X.calm=true):xf X (.builtin "min") cI_call_min2:=by
 intro pins s σ H xs c Q I r h
 obtain ⟨i,j,rfl,q⟩:=h
 obtain ⟨u,b,rfl,⟨t,rfl⟩,⟨d,rfl⟩⟩:=ZW r
 refine min_two_ints (I.ok.hd G) λh' tk k=>⟨_,H,I.kept k,?_,q⟩
 by_cases a:j<i
 ·rw [if_pos a,if_pos a];exact ⟨_,rfl⟩
 ·rw [if_neg a,if_neg a];exact ⟨_,rfl⟩
end
end L2
namespace L2
structure ObjM (h:Heap) (x dx C:Addr) (mA:Str->Option ai):Prop where
 obj:h.get? x=some (dE C dx)
 ns:h.Ns1 dx mA
 ne:dx≠x
theorem YD {h:Heap}(n:h.Ns1 dx mA):∃j,h.get? dx=some j/\∀name,lU name j=some (mA name):=by
 obtain ⟨o,es,l,d,i,g,_,f⟩:=n
 refine ⟨o,d,λname=>?_⟩
 have e:=f name
 unfold nsFind findBy at e
 rw [<- Array.find?_toList] at e
 unfold lU
 rw [i]
 dsimp only
 split
 ·rename_i y q
  rw [q] at e
  exact congrArg some e
 ·rename_i q
  rw [q] at e
  have a:es.toList.any (·.refKey)=false:=by
   rw [List.any_eq_false]
   intro y c
   obtain ⟨z,t,b⟩:=g y (Array.mem_toList_iff.mp c)
   simp [DictEntry.refKey,b]
  have k:¬es.toList.any (·.refKey)=true:=by rw [a];exact aq
  rw [if_neg k]
  exact congrArg some e
theorem ObjM.look {x dx:Addr}(I:ObjM h x dx C mA):∃j,PySem.W.InstAt h x (dE C dx) C (some j)/\∀name,lU name j=some (mA name) :=
 let ⟨j,a,b⟩:=YD I.ns
 ⟨j,⟨I.obj,rfl,rfl,a⟩,b⟩
section
variable {prog:Program}{w:bx}{A:bC}{E:ai->Shared->Prop}{s:Shared}{K:af}{x dx C f:Addr}{mA:Str->Option ai}{name:Str}{v:ai}
theorem UH {j:Bool}{Q:ai->Shared->Prop}(X:K.In s.heap) (I:ObjM s.heap x dx C mA) (hg:fW K C name=true) (Y:iq K C=true)
  (ha:bS K (.ref C) name=some none) (U:mA name=some v) (G:sf v=true) (h:Q v { s with toks:=s.toks+1 }) :
  ax (ay prog w) A (getAttr (.ref x) name j) Q E s:=by
 obtain ⟨b,J,a⟩:=I.look
 exact PySem.W.get_value X J (lH hg).1 (PySem.W.findObj_own Y ha rfl (by rw [a,U])) G h
theorem VZ {Q:ai×List ai->Shared->Prop}(X:K.In s.heap) (I:ObjM s.heap x dx C mA) (j:fW K C name=true)
  (Y:bS K (.ref C) name=some (some (.ref f))) (U:rh K (.ref f)=true) (G:mA name=none) (h:Q (.ref f,[.ref x]) s) :
  ax (ay prog w) A (mS (.ref x) name pl) Q E s:=by
 obtain ⟨a,J,b⟩:=I.look
 exact PySem.W.method_fn X J (lH j).1 (lH j).2 Y (beq_iff_eq.mp U) (by show (lU name a).map (·.isSome)=some false;rw [b,G];rfl) h
theorem Uh {Q:Unit->Shared->Prop}(X:K.In s.heap) (I:ObjM s.heap x dx C mA)
  (Y:bS K (.ref C) "__setattr__" = some (some (.builtin "object.__setattr__"))) (hp:mj K C=true) (U:o8 K C name=some none) (hh:iq K C=true)
  (G:pZ mA ns) (hsz:ns.length<=sizeLine)
  (h:∀h',ObjM h' x dx C (λy=>if y=name then some v else mA y)->fg dx s.heap h'->Q () { s with heap:=h',toks:=s.toks+2 }) :
  ax (ay prog w) A (setAttr (.ref x) name v) Q E s:=by
 obtain ⟨n,J,p⟩:=I.look
 refine PySem.W.set_plain X J Y (PySem.W.osa_open (s:={ s with toks:=s.toks+1 }) (r:=none) X J hp U λb=>?_)
 obtain ⟨q,k,g⟩:=PySem.W.any_some hh
 have j:s.heap.get? x=some ⟨.ref C,some dx,.plain,#[]⟩:=I.obj
 refine aa (wpAny_pure (aa (aa (wpAny_loadPart j (aa (PySem.W.Looks.here (s:={ s with toks:=s.toks+1 }) (PySem.W.looks_clsIn X k) ?_))))))
 rw [g]
 refine wpAny_pure (a:=some dx) (aa (wpAny_pure (aa ?_)))
 refine wpAny_nsSet1 (s:={ s with toks:=s.toks+1 }) I.ns λh' d c=>?_
 obtain ⟨o,l,m,e,f,i⟩:=d.count (PySem.Within.cons name v G)
 refine aa (wpAny_lookBehind e (by rw [f];exact pastItsLine_dict (aN i (by rw [bo];omega))) ?_)
 exact wpAny_pure (h _ ⟨(c.2 _ (cV I.ne)).trans I.obj,d,I.ne⟩ c)
theorem VC {vs:List ai}{j:List (Str×ai)}(X:K.In s.heap) (G:o9 K C=true)
  (hi:bS K (.ref C) "__init__" = some (some (.ref f))) (I:PySem.W.typeIn K (.ref f)=some (.type "function"))
  (h:dO (ay prog w) (A.under (.builtin "type.__call__" ⟨.ref C::vs,j⟩)) (.call (.ref f) ⟨.ref ↥12::vs,j⟩) (PySem.W.InitBack ↥12 R)
   { s with heap:=(s.heap.push cN).push (dE C s.heap.objs.size) }) :
  dO (ay prog w) A (.call (.ref C) ⟨vs,j⟩) R s:=by
 obtain ⟨b,g,d,t,os⟩:=s
 exact PySem.W.make_core (PySem.W.makes_of X G) (PySem.W.looks_findIn X hi) (λa=>PySem.W.bind_fn X a I) (.inl rfl) h
end
noncomputable def jt (f:Str) (v:V):List (Str×V)->List (Str×V)
 | []=>[(f,v)]
 | (g,x)::r=>if g=f then (g,v)::r else (g,x)::jt f v r
theorem jy (f g:Str) (v:V):∀fs:List (Str×V),(jt f v fs).lookup g=if g=f then some v else fs.lookup g
 | []=>by
  show eZ g [(f,v)]=_
  by_cases h:g=f
  ·have a:(g == f)=true:=beq_iff_eq.mpr h
   simp only [eZ,a,if_pos h]
  ·have a:(g == f)=false:=beq_eq_false_iff_ne.mpr h
   simp only [eZ,a,if_neg h]
 | (k,x)::r=>by
  have c:=jy f g v r
  rw [show jt f v ((k,x)::r)=(if k=f then (k,v)::r else (k,x)::jt f v r) from rfl]
  by_cases b:k=f
  ·rw [if_pos b]
   by_cases h:g=k
   ·have a:(g == k)=true:=beq_iff_eq.mpr h
    simp only [eZ,a,if_pos (h.trans b)]
   ·have a:(g == k)=false:=beq_eq_false_iff_ne.mpr h
    simp only [eZ,a,if_neg (λe:g=f=>h (e.trans b.symm))]
  ·rw [if_neg b]
   by_cases h:g=k
   ·have a:(g == k)=true:=beq_iff_eq.mpr h
    simp only [eZ,a,if_neg (λe:g=f=>b (h.symm.trans e))]
   ·have a:(g == k)=false:=beq_eq_false_iff_ne.mpr h
    simp only [eZ,a]
    exact c
theorem wk (f:Str) (v:V):∀fs:List (Str×V),f∈(jt f v fs).map (·.1)/\∀g,g∈fs.map (·.1)->g∈(jt f v fs).map (·.1)
 | []=>⟨by simp [jt],λg h=>by simp at h⟩
 | (k,x)::r=>by
  obtain ⟨c,b⟩:=wk f v r
  rw [show jt f v ((k,x)::r)=(if k=f then (k,v)::r else (k,x)::jt f v r) from rfl]
  by_cases a:k=f
  ·rw [if_pos a]
   subst a
   exact ⟨by simp,λg h=>by simpa using h⟩
  ·rw [if_neg a]
   refine ⟨?_,λg h=>?_⟩
   ·rw [aQ]
    exact aK _ c
   ·rw [aQ] at h ⊢
    rcases List.mem_cons.mp h with e | e
    ·exact List.mem_cons.mpr (.inl e)
    ·exact aK _ (b g e)
theorem jZ (f:Str) (v:V):∀fs:List (Str×V),(jt f v fs).length<=fs.length+1
 | []=>by simp [jt]
 | (k,x)::r=>by
  have b:=jZ f v r
  rw [show jt f v ((k,x)::r)=(if k=f then (k,v)::r else (k,x)::jt f v r) from rfl]
  by_cases a:k=f
  ·rw [if_pos a,bo,bo];omega
  ·rw [if_neg a,bo,bo];omega
theorem yT.some_of (r:yT (some v) o):∃u,o=some u/\jE v u:=by
 cases o with
 | none=>exact (show False from r).elim
 | some u=>exact ⟨u,rfl,r⟩
theorem yT.none_of (r:yT none o):o=none:=by
 cases o with
 | none=>rfl
 | some u=>exact (show False from r).elim
theorem Yr (r:jE v u):sf u=true:=by
 cases v with
 | non=>cases (show u=aV from r);rfl
 | bl b=>cases (show u=n9 b from r);rfl
 | int i=>obtain ⟨t,e⟩:=(show ∃t,u=mL i t from r);cases e;rfl
 | str x=>obtain ⟨t,e⟩:=(show ∃t,u=oZ x t from r);cases e;rfl
 | byt b=>obtain ⟨t,e⟩:=(show ∃t,u=Value.bytes b t from r);cases e;rfl
 | flt b=>obtain ⟨t,e⟩:=(show ∃t,u=sG b t from r);cases e;rfl
 | ref a=>cases (show u=b8 a from r);rfl
 | ty n=>cases (show u=iS n from r);rfl
section
variable {P:Program}{w:bx}{H H':Hp}{h h':Heap}{a C dx:Addr}{fs fs':List (Str×V)}
theorem km (j:HOk P w H h) (e:H a=some ↥116):∃mA,ObjM h a dx C mA/\(∀f,yT (fs.lookup f) (mA f))/\pZ mA (fs.map (·.1))/\fs.length<=1000/\H dx=some (.own a):=by
 obtain ⟨d,z,ne,b,mA,n,r,q⟩:=(show qq P w H h a ↥116 from j a _ e)
 exact ⟨mA,⟨b,n,ne⟩,r,q,z,d⟩
end
structure Cls (K:af) (C:Addr):Prop where
 pg:fW K C Str.empty=true
 hd:iq K C=true
 po:mj K C=true
 sa:bS K (.ref C) "__setattr__" = some (some (.builtin "object.__setattr__"))
theorem Cls.get {K:af}(c:Cls K C) (f:Str):fW K C f=true:=c.pg
noncomputable def zC (K:af) (C:Addr) (f:Str):Prop:=bS K (.ref C) f=some none
theorem zC.taker {K:af}{f:Str}(n:zC K C f):o8 K C f=some none:=by
 unfold o8
 rw [show bS K (.ref C) f=some none from n]
 rfl
structure Meth (K:af) (C:Addr) (m:Str) (f:Addr):Prop where
 at_:bS K (.ref C) m=some (some (.ref f))
 fn:rh K (.ref f)=true
 kp:cp K (.ref f)=true
section
variable {X:Cx}{pins:List (Addr×Obj)}{σ:St}{H:Hp}{s:Shared}{a C dx:Addr}{fs:List (Str×V)}{f:Str}{v:V}{A:bC}{E:ai->Shared->Prop}
theorem Z1 {b:Bool}{Q:ai->Shared->Prop}(I:Inv X pins σ H s) (e:H a=some ↥116) (c:Cls X.K C) (n:zC X.K C f) (l:fs.lookup f=some v)
  (h:∀u s',Inv X pins σ H s'->jE v u->Q u s'):ax ↥6 A (getAttr (.ref a) f b) Q E s:=by
 obtain ⟨mA,O,r,_,_,_⟩:=km I.hok e
 obtain ⟨u,g,d⟩:=yT.some_of (v:=v) (o:=mA f) (by rw [<- l];exact r f)
 exact UH I.kIn O (c.get f) c.hd n g (Yr d) (h u _ (I.tok _) d)
theorem ui {Q:ai×List ai->Shared->Prop}(I:Inv X pins σ H s) (e:H a=some ↥116) (c:Cls X.K C) (k:Meth X.K C m g) (l:fs.lookup m=none)
  (h:Q (.ref g,[.ref a]) s):ax ↥6 A (mS (.ref a) m pl) Q E s:=by
 obtain ⟨mA,O,r,_,_,_⟩:=km I.hok e
 have b:mA m=none:=yT.none_of (by rw [<- l];exact r m)
 exact VZ I.kIn O (c.get m) k.at_ k.fn b h
theorem Zs {Q:Unit->Shared->Prop}(I:Inv X pins σ H s) (e:H a=some ↥116) (c:Cls X.K C) (n:zC X.K C f) (U:fs.length<1000) (G:jE y u)
  (h:∀s',Inv X pins σ (upd H a (.ins C dx (jt f y fs))) s'->Q () s'):ax ↥6 A (setAttr (.ref a) f u) Q E s:=by
 obtain ⟨mA,O,r,i,_,j⟩:=km I.hok e
 have l:(fs.map (·.1)).length<=sizeLine:=by rw [ag,bE];omega
 refine Uh I.kIn O c.sa c.po n.taker c.hd i l λh' d k=>h _ ?_
 have p:∃o,h'.get? dx=some o:=let ⟨o,_,_,v,_⟩:=d.ns;⟨o,v⟩
 refine I.write (x:=a) (e:=dx) (by rw [e];exact dH) (.inr j) (λb q t z=>(k.2 b t).trans z) p ?_
 refine ⟨by rw [j8 O.ne];exact j,?_,O.ne,d.obj,_,d.ns,λg=>?_,λg m=>?_⟩
 ·have:=jZ f y fs;omega
 ·show yT ((jt f y fs).lookup g) (if g=f then some u else mA g)
  rw [jy]
  by_cases q:g=f
  ·rw [if_pos q,if_pos q];exact G
  ·rw [if_neg q,if_neg q];exact r g
 ·by_cases q:g=f
  ·rw [q];exact (wk f y fs).1
  ·refine (wk f y fs).2 g (i g λz=>m ?_)
   show (if g=f then some u else mA g)=none
   rw [if_neg q];exact z
theorem Inv.made (I:Inv X pins σ H s):Inv X pins σ (upd (upd H s.heap.objs.size (.own ↥12)) ↥12 (.ins C s.heap.objs.size []))
  { s with heap:=(s.heap.push cN).push (dE C s.heap.objs.size) }:=by
 have c:(s.heap.push cN).get? s.heap.objs.size=some cN:=aE s.heap rfl
 have h:((s.heap.push cN).push (dE C s.heap.objs.size)).get? ↥12=some (dE C s.heap.objs.size):=by
  have:=aE (s.heap.push cN) (o:=dE C s.heap.objs.size) rfl
  rwa [cZ] at this
 have g:(s.heap.push cN).Ns s.heap.objs.size (λ_=>none):=⟨cN,#[],_,c,rfl,(λe f=>absurd f (by simp)),λ_=>rfl⟩
 have i:=I.laid (a:=s.heap.objs.size) (o:=.own ↥12) (h':=s.heap.push cN) (t':=s.toks) (λb u q=>ah _ q) (ak _) ⟨_,c⟩
 refine i.laid (a:=s.heap.objs.size+1) (o:=.ins C s.heap.objs.size []) (t':=s.toks) (λb u q=>ah _ q) (rj (cZ _ _)) ?_
 have ne:s.heap.objs.size≠s.heap.objs.size+1:=aF (iT _)
 refine ⟨by rw [j8 ne,j9],aB _,ne,h,λ_=>none,(Heap.Ns1.of_empty g).at λo q=>ah _ q,λ_=>dH,λy d=>absurd rfl d⟩
theorem UG {prog:Program}{w:bx}{env:Env}{e:Expr}{f:Str}{pos:Pos}{s:Shared}{Q:ai->Shared->Prop}(G:i5 e f env (eval e env)=eval e env)
  (h:ax (ay prog w) A (eval e env) (λo j=>ax (ay prog w) A (getAttr o f true) Q E j) E s):ax (ay prog w) A (eval (.Attribute e f pos) env) Q E s :=
 Attribute_any_ h (by rw [arm_eval_Attribute,G])
end
inductive tFldI (K:af) (f:Str) (Q:VK) (x:V) (H1:Hp):Prop
 | mk (a:_) (C:_) (dx:_) (fs:_) (v:_) (_:x = .ref a) (_:H1 a=some ↥116) (_:Cls K C) (_:zC K C f) (_:fs.lookup f=some v) (_:Q v H1)
noncomputable def GK (K:af) (ta:TE) (f:Str):TE:=λσ H Q=>ta σ H λx H1=>tFldI K f Q x H1
inductive sFldI (K:af) (f:Str) (D:Ends) (σ:St) (y:V) (x:V) (H2:Hp):Prop
 | mk (a:_) (C:_) (dx:_) (fs:_) (_:x = .ref a) (_:H2 a=some ↥116) (_:Cls K C) (_:zC K C f) (_:fs.length<1000) (_:D.nx σ (upd H2 a (.ins C dx (jt f y fs))))
noncomputable def E1 (K:af) (ta tv:TE) (f:Str):TS:=λD σ H=>tv σ H λy H1=>ta σ H1 λx H2=>sFldI K f D σ y x H2
section
variable {X:Cx}{o e value:Expr}{f:Str}{pos pos' tpos:Pos}{ta tv:TE}
theorem Gr (j:PE X e ta) (G:i5 e f X.env (eval e X.env)=eval e X.env):PE X (.Attribute e f pos) (GK X.K ta f):=by
 intro pins s σ H Q I h
 refine UG G (thn ↥108 λu s1 ⟨x,H1,k,b,a,C,dx,fs,v,ex,g,c,n,l,q⟩=>?_)
 subst ex
 obtain rfl:u=b8 a:=b
 exact Z1 k g c n l λm o i d=>⟨v,H1,i,d,q⟩
theorem G4 (U:PE X o ta) (j:PE X value tv) (G:lQ value (some (.Attribute o f pos')) pos.line X.env=pure false):PS X (.Assign [.Attribute o f pos'] value pos) (E1 X.K ta tv f):=by
 intro pins s σ H D I h
 refine plainObj_wpAny_Assign_Attribute (thn ↥108 λu s1 ⟨y,H1,p,b,q⟩=>thn (U pins s1 σ H1 _ p q) λg t ⟨x,H2,m,d,a,C,dx,fs,ex,i,c,n,l,e⟩=>?_) G
 subst ex
 obtain rfl:g=b8 a:=d
 exact Zs m i c n l b λr k=>⟨σ,_,k,e⟩
theorem Wm (he:PE X e te) (I:Inv X pins σ H s)
  (h:te σ H λx H1=>∃a C dx fs g,x = .ref a/\H1 a=some ↥116/\Cls X.K C/\Meth X.K C m g/\fs.lookup m=none /\
   ∀s1,Inv X pins σ H1 s1->ax ↥6 X.A (rm pos (.ref g) [.ref a] (dh pos (aU args X.env)) (lV pos (fQ [] X.env))) Q X.xe s1)
  (ht:eval (.Call (.Attribute e m apos) args [] pos) X.env=(do
   let ov <- eval e X.env
   ip apos.atName
   let (f,first) <- i8 [ov] (mS ov m pl)
   rm pos f first (dh pos (aU args X.env)) (lV pos (fQ [] X.env)))) :
  ax ↥6 X.A (eval (.Call (.Attribute e m apos) args [] pos) X.env) Q X.xe s:=by
 refine iO (pl:=pl) (thn (he pins s σ H _ I h) λu s1 ⟨x,H1,I1,rx,a,C,dx,fs,g,ex,ea,c,k,l,q⟩=>?_) ht
 subst ex
 obtain rfl:u=b8 a:=rx
 exact ui I1 ea c k l (q s1 I1)
end
section
variable {X:Cx}{pins:List (Addr×Obj)}{σ:St}{H:Hp}{s:Shared}{A:bC}{E:ai->Shared->Prop}{Q:ai->Shared->Prop}{c:ai}{b:Bool}
inductive TyOf (K:af) (H:Hp):V->ai->Prop where
 | non:TyOf K H .non (.type "NoneType")
 | bl (x:Bool):TyOf K H (.bl x) (.type "bool")
 | int (i:Int):TyOf K H (.int i) (.type "int")
 | str (x:Str):TyOf K H (.str x) (.type "str")
 | flt (x:UInt64):TyOf K H (.flt x) (.type "float")
 | lst {a:Addr} {xs:List V} (e:H a=some (.lst xs)):TyOf K H (.ref a) ↥136
 | frz {a:Addr} {o:Obj} {xs:List V} (e:H a=some (.frz o (.lst xs))):TyOf K H (.ref a) ↥136
 | tup {a:Addr} {xs:List V} (e:H a=some (.tup xs)):TyOf K H (.ref a) (.type "tuple")
 | dK {a:Addr} {kvs:List (Key×V)} (e:H a=some (.dK kvs)):TyOf K H (.ref a) (.type "dict")
 | dT {a:Addr} {kvs:List (List Key×V)} (e:H a=some (.dT kvs)):TyOf K H (.ref a) (.type "dict")
 | ins {a C dx:Addr} {fs:List (Str×V)} (e:H a=some ↥116) (cl:Cls K C) (ha:bS K (.ref C) "__class__" = some (some (.builtin "object.__class__")))
   (hn:PySem.W.specialIn K (.builtin "object.__class__") "__get__" = some (some (.builtin "getset_descriptor.__get__"))) (htk:PySem.W.takesIn K (.builtin "object.__class__")=some true)
   (hm:PySem.W.mroIn K C (.type "object")=some true):TyOf K H (.ref a) (.ref C)
theorem V3 {t:ai}(I:Inv X pins σ H s) (j:jE x u) (ty:TyOf X.K H x t) (e:bI X.K t c=some b) (h:∀tk,Q (.bool b) { s with toks:=tk }) :
  ax ↥6 A (call (.builtin "isinstance") [u,c]) Q E s:=by
 cases ty with
 | non=>cases (show u=aV from j);exact cG PySem.W.kitx_none I.kIn dH e ↥91 h
 | bl y=>cases (show u=n9 y from j);exact cG PySem.W.kitx_bool I.kIn dH e ↥91 h
 | int i=>obtain ⟨t,q⟩:=(show ∃t,u=mL i t from j);cases q;exact cG PySem.W.kitx_int I.kIn dH e ↥91 h
 | str y=>obtain ⟨t,q⟩:=(show ∃t,u=oZ y t from j);cases q;exact cG PySem.W.kitx_str I.kIn dH e ↥91 h
 | flt y=>obtain ⟨t,q⟩:=(show ∃t,u=sG y t from j);cases q;exact cG PySem.W.kitx_float I.kIn dH e ↥91 h
 | @lst a xs d =>
  cases (show u=b8 a from j)
  obtain ⟨_,_,n,_,h1⟩:=(show qq X.prog X.w H s.heap a (.lst xs) from I.hok a _ d)
  exact cG rn I.kIn ⟨_,h1,rfl⟩ e ↥91 h
 | @frz a k xs d =>
  cases (show u=b8 a from j)
  obtain ⟨_,_,_,n,_,h1⟩:=(show qq X.prog X.w H s.heap a (.frz k (.lst xs)) from I.hok a _ d)
  exact cG rn I.kIn ⟨_,h1,rfl⟩ e ↥91 h
 | @tup a xs d =>
  cases (show u=b8 a from j)
  obtain ⟨_,_,_,p⟩:=(show qq X.prog X.w H s.heap a (.tup xs) from I.hok a _ d)
  obtain ⟨o,h1,h2,_⟩:=p
  exact cG PySem.W.kitx_tuple I.kIn ⟨o,h1,h2⟩ e ↥91 h
 | @dK a kvs d =>
  cases (show u=b8 a from j)
  obtain ⟨_,_,B,_,p⟩:=(show qq X.prog X.w H s.heap a (.dK kvs) from I.hok a _ d)
  obtain ⟨o,es,v,h1,h2,_⟩:=p
  exact cG rp I.kIn ⟨o,h1,h2.1⟩ e ↥91 h
 | @dT a kvs d =>
  cases (show u=b8 a from j)
  obtain ⟨_,_,xs,_,o,es,v,h1,h2,_⟩:=(show qq X.prog X.w H s.heap a (.dT kvs) from I.hok a _ d)
  exact cG rp I.kIn ⟨o,h1,h2.1⟩ e ↥91 h
 | @ins a C dx fs d g r l f m =>
  cases (show u=b8 a from j)
  obtain ⟨mA,O,_⟩:=km I.hok d
  obtain ⟨D,J,_⟩:=O.look
  exact cG (PySem.W.kitx_own (g.get _) g.hd r l f m) I.kIn J e ↥91 h
end
end L2
namespace L2
structure Room (k:Nat) (A:bC):Prop where
 hd:A.handled=none
 dp:A.depth+3*k+5<recursionLimit
 un:A.units+16*k+200<cLine
theorem Room.mono {j k:Nat}{A:bC}(r:Room k A) (h:j<=k):Room j A:=⟨r.hd,by have:=r.dp;omega,by have:=r.un;omega⟩
theorem Room.deeper {k:Nat}{A:bC}(r:Room (k+1) A) (env:Env):Room k (A.deeper env) :=
 ⟨r.hd,by have:=r.dp;show A.depth+1+3*k+5<_;omega,by have:=r.un;show A.units+3+16*k+200<_;omega⟩
theorem Room.in1 {k:Nat}{A:bC}(r:Room (k+1) A):Room k A.in1 :=
 ⟨r.hd,by have:=r.dp;show A.depth+3*k+5<_;omega,by have:=r.un;show A.units+1+16*k+200<_;omega⟩
theorem ZJ {A:bC}{us:List ai}{j:List (Str×ai)}: (↥72).depth=A.depth+1:=by
 first | rfl | simp [rA,Code.weight,Code.isCreation,Code.isGuard,Code.isCaller,Code.frames,rC,guardIds]
theorem Zr {A:bC}{us:List ai}{j:List (Str×ai)}: (↥72).units=A.units+1:=by
 first | rfl | simp [rA,Code.cUnits,Code.frames,rC]
theorem Room.make {k:Nat}{A:bC}(r:Room (k+1) A) (C:Addr) (us:List ai) (j:List (Str×ai)):Room k ↥72 :=
 ⟨r.hd,by have:=r.dp;rw [ZJ];omega,by have:=r.un;rw [Zr];omega⟩
theorem Room.depth {k:Nat}{A:bC}(r:Room k A):A.depth<recursionLimit:=by have:=r.dp;omega
theorem Room.units {k:Nat}{A:bC}(r:Room k A):A.units+64<cLine:=by have:=r.un;omega
noncomputable def GQ:TA:=λ_ H Q=>Q [] H
noncomputable def E6 (ta:TE) (j:TA):TA:=λσ H Q=>ta σ H λx H1=>j σ H1 λxs H2=>Q (x::xs) H2
section
variable {X:Cx}{e:Expr}{es:List Expr}{te:TE}{t:TA}{pos:Pos}
theorem j5:PA X [] GQ:=λ_ _ _ _ H Q I h=>rE ⟨[],H,I,.nil,h⟩
theorem j0 (U:PE X e te) (G:PA X es t) (j:aU (e::es) X.env=↥39::aU es X.env:=by rfl):PA X (e::es) (E6 te t):=by
 intro pos pins s σ H Q I h
 rw [j]
 show ax _ _ (spliced (↥39::dh pos (aU es X.env))) _ _ s
 refine lW (thn (U pins s σ H _ I h) λu s1 ⟨x,H1,g,b,d⟩=>?_)
 exact thn (G pos pins s1 σ H1 _ g d) λi k ⟨xs,H2,f,a,c⟩=>⟨x::xs,H2,f,.cons b a,c⟩
end
noncomputable abbrev Sp:=List V->Hp->VK->XK->Prop
noncomputable abbrev CXT:=List Env->Hp->Shared->XK->ai->Shared->Prop
structure Env0 (P:Program) (w:bx) (K:af) (mg:Str->Option ai) (base:Heap) (A:bC) (outer:List Env) (s:Shared) (H:Hp):Prop where
 frames:A.frames=some outer
 mod:Mod K mg base
 bs:∀b o,base.get? b=some o->s.heap.get? b=some o/\H b=none
 bsz:base.objs.size<=s.heap.objs.size
 funs:s.heap.FunFrames base outer
 frf:∀b∈frs outer,H b=none
 hok:HOk P w H s.heap
 bare:iU s.gens
noncomputable def CE (outer:List Env) (P:Program) (w:bx) (H:Hp) (s:Shared) (Q:VK) (u:ai) (s':Shared):Prop :=
 ∃v H',s'.os=s.os/\iU s'.gens/\Un (frs outer) [] H H' s.heap s'.heap/\HOk P w H' s'.heap/\jE v u/\Q v H'
noncomputable def CR (CX:CXT) (outer:List Env) (P:Program) (w:bx) (H:Hp) (s:Shared) (Q:VK) (E:XK) (r:pQ) (s':Shared):Prop :=
 match r with
 | .ok (.ret u)=>CE outer P w H s Q u s'
 | .ok _=>False
 | .error e=>CX outer H s E e s'
structure FnOk (P:Program) (w:bx) (K:af) (mg:Str->Option ai) (base:Heap) (CX:CXT) (k:Nat) (f:Addr) (fd:FuncData) (ps:List Str) (sp:Sp):Prop where
 len:∀vs H Q E,sp vs H Q E->vs.length=ps.length
 run:∀(A:bC) (outer:List Env) (s:Shared) (H:Hp) (args:Args) (us:List ai) (vs:List V) (Q:VK) (E:XK),Room k A->Env0 P w K mg base A outer s H->sU s fd args (ps.zip us)->jG vs us->sp vs H Q E ->
  dO (ay P w) A (.call (.ref f) args) (CR CX outer P w H s Q E) s
theorem Env0.make {w:bx}{K:af}{mg:Str->Option ai}{base:Heap}{A:bC}{outer:List Env}{s:Shared}(e:Env0 P w K mg base A outer s H) (C:Addr) (us:List ai) (j:List (Str×ai)) :
  Env0 P w K mg base ↥72 outer s H:=⟨by first | exact e.frames | (simpa [rA,Code.envs,rC,pushEnvs] using e.frames),e.mod,e.bs,e.bsz,e.funs,e.frf,e.hok,e.bare⟩
theorem Env0.in1 {w:bx}{K:af}{mg:Str->Option ai}{base:Heap}{A:bC}{outer:List Env}{s:Shared}(e:Env0 P w K mg base A outer s H) :
  Env0 P w K mg base A.in1 outer s H:=⟨e.frames,e.mod,e.bs,e.bsz,e.funs,e.frf,e.hok,e.bare⟩
section
variable {X:Cx}{pins:List (Addr×Obj)}{σ:St}{H:Hp}{s s':Shared}
theorem Inv.env0 (I:Inv X pins σ H s):Env0 X.prog X.w X.K X.mg X.base X.A X.stack s H :=
 ⟨I.ok.frames,I.ok.mod,I.bs,aN I.ok.bsz I.sz,I.stack,I.stkFree,I.hok,I.bare⟩
theorem Inv.after (I:Inv X pins σ H s) (h:CE X.stack X.prog X.w H s Q u s'):EP X pins σ Q u s':=by
 obtain ⟨v,H',os,bare,un,hok,r,q⟩:=h
 obtain ⟨c,g,d,t,a⟩:=s'
 obtain rfl:a=s.os:=os
 exact ⟨v,H',I.call (h':=c) (g':=g) (d':=d) (t':=t) (ch:=[]) un hok bare (λb z=>absurd z (by simp)),r,q⟩
end
noncomputable def Wl (sp:Sp) (dvs:List V) (E:XK) (t:TA):TE:=λσ H Q=>t σ H λa H1=>sp (a++dvs) H1 Q E
inductive tMethI (C:Addr) (m:Str) (sp:Sp) (dvs:List V) (E:XK) (t:TA) (σ:St) (Q:VK) (x:V) (H1:Hp):Prop
 | mk (a:_) (dx:_) (fs:_) (_:x = .ref a) (_:H1 a=some ↥116) (_:fs.lookup m=none) (_:t σ H1 λvs H2=>sp (x::(vs++dvs)) H2 Q E)
noncomputable def Wp (C:Addr) (m:Str) (sp:Sp) (dvs:List V) (E:XK) (ta:TE) (t:TA):TE:=λσ H Q=>ta σ H λx H1=>tMethI C m sp dvs E t σ Q x H1
noncomputable def yR (K:af) (fd:FuncData) (ps:List Str) (ds:List ai):Prop :=
 ∀(s:Shared) (a:List ai),K.In s.heap->(a++ds).length=ps.length->sU s fd ⟨a,[]⟩ (ps.zip (a++ds))
theorem yR.all {K:af}{ps:List Str}(h:∀us:List ai,us.length=ps.length->d5 fd ⟨us,[]⟩=pure (ps.zip us)):yR K fd ps []:=λs us _ a=>by
 rw [bj] at a ⊢
 exact .of_eq (h us a)
noncomputable def JU (CX:CXT) (X:Cx) (E:XK):Prop:=∀(pins:List (Addr×Obj)) (σ:St) (H:Hp) (s:Shared) (e:ai) (s':Shared),Inv X pins σ H s->CX X.stack H s E e s'->X.xe e s'
section
variable {X:Cx}{CX:CXT}{k:Nat}{f C:Addr}{fd:FuncData}{ps:List Str}{sp:Sp}{dvs:List V}{ds:List ai}{E:XK}{x m:Str}{p pos apos:Pos}{e o:Expr}{es:List Expr}{ta:TE}{t:TA}
theorem VP (F:FnOk X.prog X.w X.K X.mg X.base CX k f fd ps sp) (G:Room k X.A) (Y:yR X.K fd ps ds) (U:jG dvs ds) (j:JU CX X E)
  (I:Inv X pins σ H s) (r:jG vs us) (h:sp (vs++dvs) H Q E):ax ↥6 X.A (call (.ref f) us) ↥62 X.xe s:=by
 have b:jG (vs++dvs) (us++ds):=r.append U
 have c:(us++ds).length=ps.length:=by rw [<- b.length];exact F.len _ _ _ _ h
 refine nj (eE (F.run X.A X.stack s H ⟨us,[]⟩ (us++ds) (vs++dvs) Q E G I.env0 (Y s us I.kIn c) b h) λr s' a=>?_)
 cases r with
 | error e=>exact j pins σ H s e s' I a
 | ok fl =>
  cases fl with
  | ret u=>exact I.after a
  | next=>exact bM a
  | brk=>exact bM a
  | cont=>exact bM a
theorem UF (F:FnOk X.prog X.w X.K X.mg X.base CX k f fd ps sp) (Y:Room k X.A) (hg:Gl X x) (hm:X.mg x=some (.ref f)) (hk:cp X.K (.ref f)=true) (hb:yR X.K fd ps ds) (hd:jG dvs ds) (U:JU CX X E)
  (ha:PA X (e::es) t) (G: ↥30=false:=by decide) (he:aU (e::es) X.env=↥39::aU es X.env:=by rfl) (j: (↥70).any (·.1)=false:=by rfl) :
  PE X ↥75 (Wl sp dvs E t):=by
 intro pins s σ H Q I h
 refine dS (uA I hg hm ?_ G)
 refine fh (h₀:=X.base) I.ok.mod.kin hk (thn ↥52 λc s1 ⟨b,H1,a,r,q⟩=>⟨a.kIn,?_⟩) he j
 exact VP F Y hb hd U a r q
theorem UN (he:PE X o ta) (c:Cls X.K C) (hm:Meth X.K C m f) (F:FnOk X.prog X.w X.K X.mg X.base CX k f fd ps sp) (hr:Room k X.A) (hb:yR X.K fd ps ds) (hd:jG dvs ds) (hx:JU CX X E) (ha:PA X (e::es) t)
  (hst:aU (e::es) X.env=↥39::aU es X.env:=by rfl) (hpl: (↥70).any (·.1)=false:=by rfl)
  (ht:eval ↥48 X.env=(do
   let ov <- eval o X.env
   ip apos.atName
   let (f,first) <- i8 [ov] (mS ov m pl)
   rm pos f first (dh pos (aU (e::es) X.env)) (lV pos (fQ [] X.env))):=by rfl) :
  PE X ↥48 (Wp C m sp dvs E ta t):=by
 intro pins s σ H Q I h
 refine iO (pl:=pl) (thn (he pins s σ H _ I h) λu s1 ⟨x,H1,I1,rx,a,dx,fs,ex,ea,l,q⟩=>?_) ht
 subst ex
 obtain rfl:u=b8 a:=rx
 refine ui I1 ea c hm l ?_
 refine fh (first:=[.ref a]) (h₀:=X.base) I.ok.mod.kin hm.kp (thn (ha pos pins s1 σ H1 _ I1 q) λus s2 ⟨vs,H2,I2,r,q2⟩=>⟨I2.kIn,?_⟩) hst hpl
 exact VP (us:=.ref a::us) (vs:=.ref a::vs) F hr hb hd hx I2 (.cons rfl r) q2
structure Mk (K:af) (C f:Addr):Prop where
 makes:o9 K C=true
 init:bS K (.ref C) "__init__" = some (some (.ref f))
 fn:rh K (.ref f)=true
 kp:cp K (.ref C)=true
end
section
variable {X:Cx}{CX:CXT}{k:Nat}{f C:Addr}{fd:FuncData}{ps ks:List Str}{sp:Sp}{E:XK}{x m:Str}{p pos apos kpos:Pos}{e o:Expr}{es:List Expr}{kws:List nk}{te ta:TE}{t tk:TA}{nm:Option Str}
variable {g:List ai->List ai->List ai}{gV:List V->List V->List V}
end
structure FnScope (N P:List Str) (sc:Scope):Prop where
 kind:sc.kind = .function
 co:sc.isCoroutine=false
 gen:sc.isGenerator=false
 nd:N.Nodup
 pre:N.take P.length=P
 par:∀x∈P,sc.names.lookup x=some .local\/sc.names.lookup x=some .cell
 nofree:∀y∈sc.names,y.2≠.free
theorem JI {kindOf:Str->Option ir}{x:Str}:∀{binds:List (Str×ai)}{m:Str->Option ai},(∀v,(x,v)∉binds)->t7 kindOf binds m x=m x
 | [],_,_=>rfl
 | (n,v)::r,m,h=>by
  unfold t7
  rw [JI λw a=>h w (aK _ a)]
  split
  ·have:x≠n:=by rintro rfl;exact h v aM
   simp [this]
  ·rfl
theorem Jz {kindOf:Str->Option ir}{x:Str}:∀{binds:List (Str×ai)}{m:Str->Option ai},(∀v,(x,v)∉binds)->tf kindOf binds m x=m x
 | [],_,_=>rfl
 | (n,v)::r,m,h=>by
  unfold tf
  rw [Jz λw a=>h w (aK _ a)]
  split
  ·rfl
  ·have:x≠n:=by rintro rfl;exact h v aM
   simp [this]
theorem JC {kindOf:Str->Option ir}:∀{P:List Str}{vs:List ai}{i:Nat}{m:Str->Option ai},P.Nodup->P[i]? = some x->vs[i]? = some v->kindOf x=some .local ->
  t7 kindOf (P.zip vs) m x=some v
 | [],_,_,_,_,h,_,_=>by simp at h
 | _::_,[],_,_,_,_,h,_=>by simp at h
 | p::P,w::vs,0,m,a,h1,h2,b=>by
  simp at h1 h2;subst h1;subst h2
  show t7 kindOf ((p,w)::P.zip vs) m p=_
  unfold t7
  rw [JI λv c=>(List.nodup_cons.mp a).1 (lp c).1,if_pos b]
  simp
 | p::P,w::vs,i+1,m,a,h1,h2,b=>by
  show t7 kindOf ((p,w)::P.zip vs) m x=_
  unfold t7
  exact JC (i:=i) (List.nodup_cons.mp a).2 (by simpa using h1) (by simpa using h2) b
theorem JJ {kindOf:Str->Option ir}:∀{P:List Str}{vs:List ai}{i:Nat}{m:Str->Option ai},P.Nodup->P[i]? = some x->vs[i]? = some v->kindOf x≠some .local ->
  tf kindOf (P.zip vs) m x=some v
 | [],_,_,_,_,h,_,_=>by simp at h
 | _::_,[],_,_,_,_,h,_=>by simp at h
 | p::P,w::vs,0,m,a,h1,h2,b=>by
  simp at h1 h2;subst h1;subst h2
  show tf kindOf ((p,w)::P.zip vs) m p=_
  unfold tf
  rw [Jz λv c=>(List.nodup_cons.mp a).1 (lp c).1,if_neg b]
  simp
 | p::P,w::vs,i+1,m,a,h1,h2,b=>by
  show tf kindOf ((p,w)::P.zip vs) m x=_
  unfold tf
  exact JJ (i:=i) (List.nodup_cons.mp a).2 (by simpa using h1) (by simpa using h2) b
noncomputable def start (N:List Str) (vs:List V):St:=vs.map some++dU (N.length-vs.length) none
noncomputable def uk (CX:CXT) (P:Program) (w:bx) (K:af) (mg:Str->Option ai) (base:Heap) (N:List Str) (qual:Str) (scope:Scope) (f:Addr) (cd:ai) (A:bC) (outer:List Env) (s:Shared) (H:Hp) (E:XK):Cx where
 prog:=P
 w:=w
 K:=K
 mg:=mg
 base:=base
 A:=A.deeper (mE qual scope s.heap.objs.size f cd)
 N:=N
 s₀:=s
 H₀:=H
 env:=mE qual scope s.heap.objs.size f cd
 outer:=outer
 stack:=mE qual scope s.heap.objs.size f cd::outer
 ex:=[]
 calm:=true
 fn:=λ_=>true
 pn:=[]
 xe:=λe s'=>ax (ay P w) (A.deeper (mE qual scope s.heap.objs.size f cd)) (pe (mE qual scope s.heap.objs.size f cd) e) (λ_ s''=>CX outer H s E e s'') (λe' s''=>CX outer H s E e' s'') s'
theorem Xu {j:Scope}{n:Nat}(h:j.names.lookup x=some .cell):∃c,(si n j.names []).lookup x=some c:=by
 have q:=iu j.names n [] (.inl h)
 exact Option.isSome_iff_exists.mp q
theorem Js {CX:CXT}{P:Program}{w:bx}{K:af}{mg:Str->Option ai}{base:Heap}{N ps:List Str}{G:Str}{scope:Scope}{f:Addr}{I:ai}{A:bC}{outer:List Env}{s s1:Shared}{H:Hp}{E:XK}{us:List ai}{vs:List V}
  (S:FnScope N ps scope) (U:A.handled=none) (j:Env0 P w K mg base A outer s H) (Y:vs.length=ps.length) (r:jG vs us)
  (x:InCallC s s.heap.objs.size (t7 (mE G scope s.heap.objs.size f I).kindOf (ps.zip us) λ_=>none) (si ↥12 scope.names []) (tf (mE G scope s.heap.objs.size f I).kindOf (ps.zip us) λ_=>none) s1) :
  Inv (uk CX P w K mg base N G scope f I A outer s H E) [] (start N vs) H s1:=by
 have C:ps.length<=N.length:=by have:=congrArg oI S.pre;rw [aY] at this;omega
 obtain ⟨h1,tk,rfl,o⟩:=x.done
 have d:∀b:Addr,b∉(uk CX P w K mg base N G scope f I A outer s H E).ex:=λb z=>absurd (show b∈([]:List Addr) from z) (by simp)
 refine ⟨⟨j.mod,S.kind,rfl,rfl,ak _,λy z c h1 h2=>?_,λy hy=>?_,λy c _ h=>?_,λ_=>U,Around.frames_deeper j.frames,.inr ⟨rfl,rfl⟩,λb z=>absurd z (d b),j.bs,j.bsz,λb _ _=>d b,λb z=>absurd z (d b),j.funs,j.frf⟩,
  rfl,j.bare,Un.kept o,⟨_,x.toInCall.ns,λi y v h1 h2 D=>?_⟩,λy c h=>⟨_,x.cell y c h⟩,j.hok.fresh (ak _),λy c h=>?_,λp g=>absurd (show p∈([]:List (Addr×Obj)) from g) (by simp),j.hok.kept o,?_⟩
 ·exact name_of_addr x.apart (dM h1) (dM h2)
 ·have hy:scope.names.lookup y=some .cell\/scope.names.lookup y=some .free:=hy
  rcases hy with hy | hy
  ·exact Xu hy
  ·exact absurd rfl (S.nofree _ (dM hy))
 ·exact ff (x.above y c (dM h))
 ·have hi:i<vs.length:=by
   unfold start at h2
   by_cases hi:i<vs.length
   ·exact hi
   ·rw [dW (by simpa using hi)] at h2
    rw [mT] at h2
    split at h2 <;> cases h2
  have B:vs[i]? = some v:=by
   unfold start at h2
   rw [ee (by simpa using hi),aH] at h2
   cases e:vs[i]? with
   | none=>rw [e] at h2;cases h2
   | some a=>rw [e] at h2;cases h2;rfl
  obtain ⟨u,m,t⟩:=r.get B
  have g:ps[i]? = some y:=by
   rw [<- S.pre,List.getElem?_take_of_lt ∅];exact h1
  have l:ps.Nodup:=by rw [<- S.pre];exact S.nd.sublist (ml _ _)
  refine ⟨u,t,?_⟩
  rcases S.par y (aC g) with k | k
  ·exact .inl ⟨k,JC l g m k⟩
  ·obtain ⟨c,e⟩:=Xu (n:=s.heap.objs.size+1) k
   refine .inr ⟨.inl k,c,e,?_⟩
   have q:=x.cell y c e
   rw [JJ l g m (by show scope.names.lookup y≠_;rw [k];decide)] at q
   exact q
 ·exact j.hok.fresh (ff (x.above y c (dM h)))
 ·unfold start
  show _=N.length
  rw [ar,ag,fG]
  omega
theorem Vz {K:af}{k:Nat}{kV pm oc:ai}{od:Option Addr}
  {Y:Array (Option ai)}  {sp:Sp} (lk:K.lookup f=some ⟨oc,od,.func (bO name j params body scope dV kV doc pm an G ct),Y⟩) (ab:d6 K G j=true) (S:FnScope N ps scope)
  (len:∀vs H Q E,sp vs H Q E->vs.length=ps.length)
  (U:∀(A:bC) (outer:List Env) (s:Shared) (H:Hp) (vs:List V) (Q:VK) (E:XK),Room k (A.deeper (mE j scope s.heap.objs.size f G))->sp vs H Q E ->
   ∃t,PSs ↥139 body t/\t { nx:=λ_ H'=>Q .non H',rt:=Q } (start N vs) H) :
  FnOk P w K mg base CX (k+1) f (bO name j params body scope dV kV doc pm an G ct) ps sp:=by
 refine ⟨len,λA outer s H R z vs Q E l c O r h=>?_⟩
 have L:=len _ _ _ _ h
 have p:K.In s.heap:=c.mod.kin.keeps λb o e=>(c.bs b o e).1
 have m:s.heap.NoLimit:=c.mod.nolimit.keeps λb o e=>(c.bs b o e).1
 have g:∀y∈ps.zip z,scope.names.lookup y.1=some .local\/(scope.names.lookup y.1=some .cell/\((si ↥12 scope.names []).lookup y.1).isSome=true):=λ⟨n,v⟩ B=>by
  rcases S.par n (lp B).1 with q | q
  ·exact .inl q
  ·exact .inr ⟨q,iu _ _ _ (.inl q)⟩
 refine codeAny_call_function l.depth (p _ _ lk) rfl S.co S.gen rfl (PySem.W.codeRec_of p ab) (O _ _ _ _ ?_)
 refine lX S.kind g λenv M s1 x=>?_
 subst M
 refine ⟨m.keeps x.toInCall.keep,codeAny_func ?_⟩
 obtain ⟨t,C,D⟩:=U A outer s H vs Q E (l.deeper _) h
 have I:Inv ↥139 [] (start N vs) H s1:=Js S l.hd c L r x
 refine bf (C [] s1 (start N vs) H _ I D) (λfl s' a=>?_) λe s' a=>a
 have fin:∀{d:St} {H':Hp} {v:V} {u:ai},Inv ↥139 [] d H' s'->jE v u->Q v H'->CE outer P w H s Q u s' :=
  λ{d H' v u} J i q=>⟨v,H',J.os,J.bare,J.base,J.hok,i,q⟩
 cases fl with
 | ret u =>
  obtain ⟨v,d,H',J,i,q⟩:=a
  exact fin J i q
 | next =>
  obtain ⟨d,H',J,q⟩:=a
  exact fin (v:=V.non) (u:=aV) J rfl q
 | brk =>
  obtain ⟨_,_,_,q⟩:=a
  exact bM q
 | cont =>
  obtain ⟨_,_,_,q⟩:=a
  exact bM q
end L2
namespace L2
section
variable {X:Cx}{x:Str}{p pos:Pos}{e:Expr}{es:List Expr}{t:TA}{id T:String}{r:List V->Hp->VK->Prop}
noncomputable def tCB (r:List V->Hp->VK->Prop) (t:TA):TE:=λσ H Q=>t σ H λa H1=>r a H1 Q
theorem jf (hc:xf X (.builtin id) r) (hg:Gl X x) (hm:X.mg x=none) (U:il x=some (.builtin id)) (ha:PA X (e::es) t) (Y:x ≠ "__name__":=by decide) (G: ↥30=false:=by decide)
  (he:aU (e::es) X.env=↥39::aU es X.env:=by rfl) (j: (↥70).any (·.1)=false:=by rfl):PE X ↥75 (tCB r t):=by
 intro pins s σ H Q I h
 refine dS (yG I hg hm U ?_ Y G)
 exact PyProof.Rows.callWith_builtin1 (thn ↥52 λb s1 ⟨a,H1,f,c,d⟩=>hc pins s1 σ H1 a b Q f c d) he j
theorem qN (hc:xf X (.type T) r) (hg:Gl X x) (hm:X.mg x=none) (U:il x=some (.type T)) (ha:PA X (e::es) t) (Y:x ≠ "__name__":=by decide) (G: ↥30=false:=by decide)
  (he:aU (e::es) X.env=↥39::aU es X.env:=by rfl) (j: (↥70).any (·.1)=false:=by rfl):PE X ↥75 (tCB r t):=by
 intro pins s σ H Q I h
 refine dS (yG I hg hm U ?_ Y G)
 exact cx (thn ↥52 λb s1 ⟨a,H1,f,c,d⟩=>hc pins s1 σ H1 a b Q f c d) he j
end
end L2
namespace HT
open PySem PyProof.Rows
section
open PySem.SeqAt
open PySem.AutoSeq1 (wpAny_loadPart')
open PySem.MeetsSeq PySem.MeetsSeq2 PySem.MeetsSeq3
end
section
variable {prog:Program}{w:bx}{A:bC}{E:ai->Shared->Prop}{s:Shared}
noncomputable def sIx (n d:Nat):Option Int->Nat
 | none=>d
 | some v=>if v<0 then (v+(n:Int)).toNat else min v.toNat n
theorem slicePart_ {Q:Option Int->Shared->Prop}(p:A5 v o) (h:Q o s):ax (ay prog w) A (Builtin.Slice.slicePartIndex v) Q E s:=by
 cases p with
 | none=>exact slicePart_none h
 | int i t=>exact slicePart_int h
end
end HT
namespace L2
noncomputable abbrev TO:=St->Hp->(Option Int->Hp->Prop)->Prop
section
variable {X:Cx}{e:Expr}{te:TE}{lo hi:Option Expr}{tl th:TO}{pos p2:Pos}
noncomputable def SlR (X:Cx) (r:V->Option Int->Option Int->Hp->VK->Prop):Prop :=
 ∀(pins:List (Addr×Obj)) (s:Shared) (σ:St) (H:Hp) (x:V) (v b a:ai) (lo hi:Option Int) (c:Addr) (Q:VK),Inv X pins σ H s->jE x v->s.heap.IsSliceOf c b a .none->A5 b lo->A5 a hi->r x lo hi H Q ->
  ∃T id,nu (.type T) "__getitem__" = pure (some (.builtin id))/\s.TypeIs v T/\ax ↥6 X.A (nv v (.ref c)) ↥62 X.xe s
noncomputable def UY (xs:List V) (lo hi:Option Int):List V:=(xs.drop (HT.sIx xs.length 0 lo)).take (HT.sIx xs.length xs.length hi-HT.sIx xs.length 0 lo)
theorem XV (xs:List V) (lo hi:Option Int):(UY xs lo hi).length<=xs.length:=by
 unfold UY
 rw [aY,eQ]
 omega
end
end L2
namespace L2
noncomputable def ixN (n:Nat) (i:Int):Option Nat:=if 0<=i then (if i<n then some i.toNat else none) else if -(n:Int)<=i then some (i+n).toNat else none
noncomputable def atI {α:Type}(xs:List α) (i:Int):Option α:=(ixN xs.length i).bind λj=>xs[j]?
theorem ZQ {n:Nat}{i:Int}{j:Nat}(h:ixN n i=some j):seqIndex? i n=some j/\j<n /\ -(n:Int)<=i/\i<n:=by
 unfold ixN at h
 by_cases a:0<=i
 ·rw [if_pos a] at h
  by_cases h1:i<n
  ·rw [if_pos h1] at h
   have e:i.toNat=j:=bB h
   exact ⟨by rw [sJ a h1,e],∅,∅,h1⟩
  ·rw [if_neg h1] at h;cases h
 ·rw [if_neg a] at h
  by_cases h1 : -(n:Int)<=i
  ·rw [if_pos h1] at h
   have e:(i+n).toNat=j:=bB h
   exact ⟨by rw [rG ∅ h1,e],∅,h1,∅⟩
  ·rw [if_neg h1] at h;cases h
theorem Qh {α:Type}{xs:List α}{i:Int}{v:α}(h:atI xs i=some v):∃j,seqIndex? i xs.length=some j/\xs[j]? = some v/\j<xs.length /\ -(xs.length:Int)<=i/\i<xs.length:=by
 unfold atI at h
 cases e:ixN xs.length i with
 | none=>rw [e] at h;cases h
 | some j =>
  rw [e] at h
  obtain ⟨h1,h2,b,a⟩:=ZQ e
  exact ⟨j,h1,h,h2,b,a⟩
theorem zN {α:Type}{xs:List α}{j:Nat}{v:α}(h:xs[j]? = some v):atI xs (j:Int)=some v:=by
 have a:j<xs.length:=(List.getElem?_eq_some_iff.mp h).1
 have e:ixN xs.length (j:Int)=some j:=by
  unfold ixN
  rw [if_pos ∅,if_pos ∅];simp
 unfold atI;rw [e];exact h
theorem Xj {α:Type}(xs:List α) (v:α):atI (xs++[v]) (-1)=some v:=by
 have a:(xs++[v]).length=xs.length+1:=by simp
 have e:ixN (xs++[v]).length (-1)=some xs.length:=by
  unfold ixN
  rw [a,if_neg ⋯,if_pos ∅]
  congr 1
  omega
 unfold atI
 rw [e]
 show (xs++[v])[xs.length]? = some v
 simp
noncomputable def U8 (b:Expr):Prop:=∀o i,oJ b false o i=operate [o,i] (nv o i)
noncomputable def IxR (X:Cx) (r:R2):Prop :=
 ∀(value a:Expr) (pins:List (Addr×Obj)) (s:Shared) (σ:St) (H:Hp) (x y:V) (v u:ai) (Q:VK),Inv X pins σ H s->jE x v->jE y u->r x y H Q ->
  oJ a false v u=operate [v,u] (nv v u)->ax ↥6 X.A (mF value a v u) ↥62 X.xe s
noncomputable def MtR (X:Cx) (id:String) (r:V->List V->Hp->VK->Prop):Prop :=
 ∀(pins:List (Addr×Obj)) (s:Shared) (σ:St) (H:Hp) (x:V) (xs:List V) (v:ai) (a:List ai) (Q:VK),Inv X pins σ H s->jE x v->jG xs a->r x xs H Q ->
  ax ↥6 X.A (call (.builtin id) (v::a)) ↥62 X.xe s
section
variable {X:Cx}{a b:Expr}{ta tb:TE}{pos:Pos}
theorem jp (G:IxR X r) (Y:PE X a ta) (U:PE X b tb) (j:U8 b):PE X (.Subscript a b pos) (tOp r ta tb):=by
 intro pins s σ H Q I h
 exact pR (G8 Y U I h λv u c x y H2 f e d q=>G a b pins c σ H2 x y v u Q f e d q (j _ _))
inductive rIxL (K:af) (x:V) (y:V) (H:Hp) (Q:VK):Prop
 | mk (p:_) (xs:_) (i:_) (v:_) (_:x = .ref p) (_:y = .int i) (_:SqL K H p xs) (_:atI xs i=some v) (_:Q v H)
inductive rIxT (K:af) (x:V) (y:V) (H:Hp) (Q:VK):Prop
 | mk (p:_) (xs:_) (i:_) (v:_) (_:x = .ref p) (_:y = .int i) (_:SqT K H p xs) (_:atI xs i=some v) (_:Q v H)
inductive rIxS  (x:V) (y:V) (H:Hp) (Q:VK):Prop
 | mk (z:_) (i:_) (c:_) (_:x = .str z) (_:y = .int i) (_:z.length<=sizeLine) (_:atI z.cps.toList i=some c) (_:Q (.str ⟨#[c]⟩) H)
theorem Uq:IxR X (rIxL X.K):=by
 intro value g pins s σ H x y v u Q I l k h d
 obtain ⟨p,xs,i,z,rfl,rfl,m,o,q⟩:=h
 cases l
 obtain ⟨t,rfl⟩:=k
 obtain ⟨c,r,pl,C⟩:=I.list m
 obtain ⟨j,h1,h2,E,B,A⟩:=Qh o
 obtain ⟨w,f,b⟩:=r.get h2
 have n:=r.length
 have D:=gk
 have fin:EP X pins σ Q w s:=⟨z,H,I,b,q⟩
 by_cases e:0<=i
 ·have a:i.toNat=j:=by
   rw [sJ e A] at h1
   exact bB h1
  exact item_listR pl.isList e ∅ (by rw [a];simpa using f) fin d
 ·have a:(i+(c.toArray.size:Int)).toNat=j:=by
   rw [rG ∅ B] at h1
   rw [au,<- n]
   exact bB h1
  exact nA (x:=w) pl.isList.typeIs slot_list_getitem.lookup
   (wpAny_getItem_list_neg (Q:=λr s'=>r=w/\EP X pins σ Q r s') pl.isList ∅ (by rw [au] <;> omega) ∅ (by rw [a];simpa using f) ⟨rfl,fin⟩) d
theorem Wz:IxR X (rIxT X.K):=by
 intro value b pins s σ H x y v u Q I d c h e
 obtain ⟨p,xs,i,z,rfl,rfl,f,k,q⟩:=h
 cases d
 obtain ⟨t,rfl⟩:=c
 obtain ⟨m,r,pl,n⟩:=I.tuple f
 obtain ⟨j,h1,h2,C,B,A⟩:=Qh k
 obtain ⟨w,l,a⟩:=r.get h2
 have g:=r.length
 have o:=gk
 have fin:EP X pins σ Q w s:=⟨z,H,I,a,q⟩
 exact nA (x:=w) pl.typeIs slot_tuple_getitem.lookup
  (getItem_tuple (j:=j) (Q:=λr s'=>r=w/\EP X pins σ Q r s') pl ∅ ∅ (by rw [au,<- g];exact h1) (by simpa using l) ⟨rfl,fin⟩) e
theorem G9:IxR X rIxS:=by
 intro value a pins s σ H x y v u Q I d b h e
 obtain ⟨z,i,c,rfl,rfl,p,g,q⟩:=h
 obtain ⟨t,rfl⟩:=d
 obtain ⟨o,rfl⟩:=b
 obtain ⟨j,h1,h2,w,l,k⟩:=Qh g
 have f:z.cps.toList.length=z.length:=by simp [Str.length]
 rw [f] at h1 l k
 have r:=gk
 exact Ac (typeIs_str s z t) slot_str_getitem.lookup (getItem_str (c:=c) (by
  have n:decide (i < -(2 ^ 63:Int))=false:=decide_eq_false ∅
  have m:decide (i>=2 ^ 63)=false:=decide_eq_false ∅
  rw [n,m,tT]) (by rw [h1];simpa using h2) ⟨.str ⟨#[c]⟩,H,I.tok _,⟨_,rfl⟩,q⟩) e
theorem Zo (its:List ai) (n j:Nat) (u:ai):aS (·.setIfInBounds j u) { cls:=.type "list",data:=.seq its.toArray n }={ cls:=.type "list",data:=.seq (its.set j u).toArray n }:=by
 simp [aS]
theorem Inv.lst {s:Shared}{p:Addr}{xs:List V}(I:Inv X pins σ H s) (h:H p=some (.lst xs)) :
  ∃(its:List ai) (n:Nat),jG xs its/\s.heap.get? p=some { cls:=.type "list",data:=.seq its.toArray n }/\xs.length<=sizeLine:=by
 obtain ⟨z,its,n,r,e⟩:=I.hok p _ h
 exact ⟨its,n,r,e,z⟩
theorem Inv.lstUpd {s:Shared}{p:Addr}{xs ys:List V}{its its':List ai}{n j:Nat}{f:Obj->Obj}(I:Inv X pins σ H s) (h:H p=some (.lst xs))
  (Y:s.heap.get? p=some { cls:=.type "list",data:=.seq its.toArray n }) (G:f { cls:=.type "list",data:=.seq its.toArray n }={ cls:=.type "list",data:=.seq its'.toArray j }) (r:jG ys its') (U:ys.length<=sizeLine) (t:Nat) :
  Inv X pins σ (upd H p (.lst ys)) { s with heap:=s.heap.update p f,toks:=t }:=by
 have e:(s.heap.update p f).get? p=some { cls:=.type "list",data:=.seq its'.toArray j }:=by
  rw [fH f Y (by rw [G] <;> rfl),G]
 refine I.write (x:=p) (e:=p) (by rw [h];trivial) (.inl rfl) (λb u a q=>(d8 _ _ (cV a)).trans q) ⟨_,e⟩ ?_
 exact ⟨U,its',j,r,e⟩
noncomputable def E4:V->V->V->Hp->(Hp->Prop)->Prop:=λo i v H Q=>∃p xs k j,o = .ref p/\i = .int k/\H p=some (.lst xs)/\ixN xs.length k=some j/\Q (upd H p (.lst (xs.set j v)))
theorem uN:Ej X E4:=by
 intro pins s σ H o i v B C u Q I x y w h
 obtain ⟨p,xs,k,j,rfl,rfl,e,A,q⟩:=h
 cases x
 obtain ⟨t,rfl⟩:=y
 obtain ⟨a,n,r,b,z⟩:=I.lst e
 obtain ⟨h1,h2,g,f⟩:=ZQ A
 have c:=r.length
 have D:=gk
 have m:Inv X pins σ (upd H p (.lst (xs.set j v))) { s with heap:=s.heap.update p (aS (·.setIfInBounds j u)) } :=
  I.lstUpd e b (Zo a n j u) (r.set w j) (by rw [lq];exact z) s.toks
 by_cases l:0<=k
 ·have d:k.toNat=j:=by
   rw [sJ l f] at h1
   exact bB h1
  exact PySem.W.ki_setAt b l ∅ (by rw [au,<- c];exact f) (by rw [d];exact ⟨_,m,q⟩)
 ·have d:(k+(a.toArray.size:Int)).toNat=j:=by
   rw [rG ∅ g] at h1
   rw [au,<- c]
   exact bB h1
  exact PySem.W.ki_setBack b ∅ (by rw [au,<- c];exact g) ∅ (by rw [d];exact ⟨_,m,q⟩)
theorem Qr (lo hi:Option Int) (n:Nat):(ig lo hi none n).1=((HT.sIx n 0 lo:Nat):Int)/\(ig lo hi none n).2.1=((HT.sIx n n hi:Nat):Int)/\(ig lo hi none n).2.2=1:=by
 refine ⟨?_,?_,rfl⟩
 ·cases lo with
  | none=>simp [ig,HT.sIx]
  | some i =>
   simp only [ig,HT.sIx,sj,show (1:Int) > 0 by decide,if_true]
   by_cases h:i<0
   ·simp only [h,if_true] <;> omega
   ·simp only [h,if_false] <;> omega
 ·cases hi with
  | none=>simp [ig,HT.sIx]
  | some i =>
   simp only [ig,HT.sIx,sj,show (1:Int) > 0 by decide,if_true]
   by_cases h:i<0
   ·simp only [h,if_true] <;> omega
   ·simp only [h,if_false] <;> omega
theorem J5 (its:List ai) (lo hi:Option Int):slicePick its.toArray lo hi none=((its.drop (HT.sIx its.length 0 lo)).take (HT.sIx its.length its.length hi-HT.sIx its.length 0 lo)).toArray:=by
 obtain ⟨h1,h2,a⟩:=Qr lo hi its.toArray.size
 unfold slicePick
 rw [h1,h2,a]
 simp only [sliceRange_one,pick_run,au] <;> rfl
inductive rSlL (K:af) (x:V) (lo:Option Int) (hi:Option Int) (H:Hp) (Q:VK):Prop
 | mk (a:_) (xs:_) (_:x = .ref a) (_:SqL K H a xs) (_:∀p,H p=none->Q (.ref p) (upd H p (.lst (UY xs lo hi))))
theorem sl_list:SlR X (rSlL X.K):=by
 intro pins s σ H x v m l lo hi n Q I e j pl f h
 obtain ⟨a,xs,rfl,i,q⟩:=h
 cases e
 obtain ⟨k,r,d,g⟩:=I.list i
 have c:=r.length
 refine ⟨"list",_,slot_list_getitem.lookup,d.isList.typeIs,?_⟩
 refine mG d.isList j pl f .none (by simp) ?_ (by rw [au] <;> omega)
 rw [J5,<- c]
 refine ⟨.ref s.heap.objs.size,_,I.laid (t':=s.toks) (o:=.lst (UY xs lo hi)) (λb p q=>ah _ q) (ak _) ?_,rfl,q _ (I.hok.fresh (ak _))⟩
 exact ⟨aN (XV xs lo hi) g,_,0,(r.drop (HT.sIx xs.length 0 lo)).take (HT.sIx xs.length xs.length hi-HT.sIx xs.length 0 lo),aE _ rfl⟩
noncomputable def uQ:V->Bool
 | .non=>true
 | .bl _=>true
 | .int _=>true
 | .str _=>true
 | _=>false
noncomputable def eqV:V->V->Bool
 | .non,.non=>true
 | .bl a,.bl b=>a == b
 | .bl a,.int b=>(if a then 1 else 0) == b
 | .int a,.bl b=>a == (if b then 1 else 0)
 | .int a,.int b=>a == b
 | .str a,.str b=>a == b
 | _,_=>false
theorem GC (G:jE y u) (j:jE x v) (U:uQ y=true) (I:uQ x=true):SeqAt.EqAt A s u v (eqV y x):=by
 cases y with
 | non =>
  cases G
  cases x with
  | non=>cases j;exact SeqAt.EqAt.same _
  | bl b=>cases j;exact SeqAt.EqAt.none_bool b
  | int b=>obtain ⟨t,rfl⟩:=j;exact SeqAt.EqAt.none_int b t
  | str b=>obtain ⟨t,rfl⟩:=j;exact SeqAt.EqAt.none_str b t
  | _=>exact absurd (show false=true from I) aq
 | bl a =>
  cases G
  cases x with
  | non=>cases j;exact SeqAt.EqAt.bool_none a
  | bl b=>cases j;exact SeqAt.EqAt.bool_bool a b
  | int b=>obtain ⟨t,rfl⟩:=j;exact SeqAt.EqAt.bool_int a b t
  | str b=>obtain ⟨t,rfl⟩:=j;exact SeqAt.EqAt.bool_str a b t
  | _=>exact absurd (show false=true from I) aq
 | int a =>
  obtain ⟨c,rfl⟩:=G
  cases x with
  | non=>cases j;exact SeqAt.EqAt.int_none a c
  | bl b=>cases j;exact SeqAt.EqAt.int_bool a c b
  | int b=>obtain ⟨t,rfl⟩:=j;exact SeqAt.EqAt.int_int a c b t
  | str b=>obtain ⟨t,rfl⟩:=j;exact pL a c b t
  | _=>exact absurd (show false=true from I) aq
 | str a =>
  obtain ⟨c,rfl⟩:=G
  cases x with
  | non=>cases j;exact SeqAt.EqAt.str_none a c
  | bl b=>cases j;exact SeqAt.EqAt.str_bool a c b
  | int b=>obtain ⟨t,rfl⟩:=j;exact pM a c b t
  | str b=>obtain ⟨t,rfl⟩:=j;exact SeqAt.EqAt.str_str a c b t
  | _=>exact absurd (show false=true from I) aq
 | _=>exact absurd (show false=true from U) aq
noncomputable def eqU (x:V) (u:ai):Bool:=match u with
 | .none=>eqV .non x
 | .bool b=>eqV (.bl b) x
 | .int i _=>eqV (.int i) x
 | .str z _=>eqV (.str z) x
 | _=>false
theorem Vg (r:jE y u) (f:uQ y=true):eqU x u=eqV y x:=by
 cases y with
 | non=>cases r;rfl
 | bl b=>cases r;rfl
 | int i=>obtain ⟨t,rfl⟩:=r;rfl
 | str z=>obtain ⟨t,rfl⟩:=r;rfl
 | _=>exact absurd (show false=true from f) aq
theorem uu {x:V}:∀{xs:List V}{us:List ai},jG xs us->xs.all uQ=true->us.any (eqU x)=xs.any λy=>eqV y x
 | _,_,.nil,_=>rfl
 | y::xs,u::us,.cons r t,f=>by
  rw [pE,bt] at f
  rw [i6,i6,Vg r f.1,uu t f.2]
theorem vo (j:jE x v) (G:uQ x=true):∀{xs:List V}{us:List ai},jG xs us->xs.all uQ=true->∀u∈us,SeqAt.EqAt A s u v (eqU x u)
 | _,_,.nil,_=>λu hu=>by cases hu
 | y::xs,u::us,.cons r t,f=>λa hu=>by
  rw [pE,bt] at f
  rcases List.mem_cons.mp hu with rfl | hu
  ·rw [Vg r f.1];exact GC r j f.1 G
  ·exact vo j G t f.2 a hu
noncomputable def inV (x:V) (xs:List V):Bool:=xs.any λy=>eqV y x
inductive rIn (K:af) (neg:Bool) (x:V) (y:V) (H:Hp) (Q:VK):Prop
 | mk (p:_) (xs:_) (_:y = .ref p) (_:(SqL K H p xs\/SqT K H p xs)) (_:uQ x=true) (_:xs.all uQ=true) (_:Q (.bl (if neg then !inV x xs else inV x xs)) H)
theorem YH:OpR X (cg .In) (rIn X.K false):=by
 intro pins s σ H x y v u Q I c e h
 obtain ⟨p,xs,rfl,hq,d,fs,q⟩:=h
 cases e
 rcases hq with hq | hq
 ·obtain ⟨a,r,pl,f⟩:=I.list hq
  refine SeqAt.in_listAt (eqU x) pl.isList ↥109 ⟨.bl _,H,I,rfl,?_⟩
  rw [show a.toArray.any (eqU x)=a.any (eqU x) by simp,uu r fs]
  exact q
 ·obtain ⟨a,r,pl,f⟩:=I.tuple hq
  refine SeqAt.in_tupleAt (eqU x) pl ↥109 ⟨.bl _,H,I,rfl,?_⟩
  rw [show a.toArray.any (eqU x)=a.any (eqU x) by simp,uu r fs]
  exact q
theorem Qp:OpR X (cg .NotIn) (rIn X.K true):=by
 intro pins s σ H x y v u Q I c e h
 obtain ⟨p,xs,rfl,hq,d,fs,q⟩:=h
 cases e
 rcases hq with hq | hq
 ·obtain ⟨a,r,pl,f⟩:=I.list hq
  refine SeqAt.notIn_listAt (eqU x) pl.isList ↥109 ⟨.bl _,H,I,rfl,?_⟩
  rw [show a.toArray.any (eqU x)=a.any (eqU x) by simp,uu r fs]
  exact q
 ·obtain ⟨a,r,pl,f⟩:=I.tuple hq
  refine SeqAt.notIn_tupleAt (eqU x) pl ↥109 ⟨.bl _,H,I,rfl,?_⟩
  rw [show a.toArray.any (eqU x)=a.any (eqU x) by simp,uu r fs]
  exact q
inductive cI_call_len_seq (K:af) (xs:List V) (H:Hp) (Q:VK):Prop
 | mk (p:_) (ys:_) (_:xs=[.ref p]) (_:(SqL K H p ys\/SqT K H p ys)) (_:Q (.int ys.length) H)
theorem JV:xf X (.builtin "len") (cI_call_len_seq X.K):=by
 intro pins s σ H xs f Q I r h
 obtain ⟨p,ys,rfl,hq,q⟩:=h
 obtain ⟨u,rfl,d⟩:=vq r
 cases d
 have g:=gk
 rcases hq with hq | hq
 ·obtain ⟨c,b,pl,e⟩:=I.list hq
  have a:=b.length
  exact Calls.call_len_list pl.isList ↥125 ⟨.int ys.length,H,I.tok _,⟨s.toks+1,by rw [au,a]⟩,q⟩
 ·obtain ⟨c,b,pl,e⟩:=I.tuple hq
  have a:=b.length
  exact len_tuple pl ↥125 ⟨.int ys.length,H,I.tok _,⟨s.toks+1,by rw [au,a]⟩,q⟩
inductive cI_call_list_of (K:af) (xs:List V) (H:Hp) (Q:VK):Prop
 | mk (p:_) (ys:_) (_:xs=[.ref p]) (_:(SqL K H p ys\/SqT K H p ys)) (_:∀l,H l=none->Q (.ref l) (upd H l (.lst ys)))
theorem Qs:xf X ↥136 (cI_call_list_of X.K):=by
 intro pins s σ H xs m Q I r h
 obtain ⟨p,ys,rfl,hq,q⟩:=h
 obtain ⟨u,rfl,l⟩:=vq r
 cases l
 have fin:∀(a:List ai),jG ys a->ys.length<=sizeLine->∀(h':Heap) (d:Nat),(∀b o',s.heap.get? b=some o'->h'.get? b=some o') ->
   h'.get? s.heap.objs.size=some { cls:=.type "list",dict:=none,data:=.seq a.toArray d,slots:=#[] }->EP X pins σ Q ↥18 { s with heap:=h' }:=λa c f h' d kp e =>
  ⟨.ref s.heap.objs.size,_,I.laid (t':=s.toks) kp (ak _) (show qq X.prog X.w _ h' _ (.lst ys) from ⟨f,a,d,c,e⟩),rfl,q _ (I.hok.fresh (ak _))⟩
 rcases hq with hq | hq
 ·obtain ⟨a,c,pl,f⟩:=I.list hq
  have i:=c.length
  obtain ⟨o,g,k,n,j⟩:=pl.isList
  exact tU p (.inl rfl) g k j (λh' d kp e=>fin a c f h' d kp e) ↥125
 ·obtain ⟨a,c,pl,f⟩:=I.tuple hq
  have i:=c.length
  obtain ⟨o,g,k,n,j⟩:=pl
  exact tU p (.inr rfl) g k j (λh' d kp e=>fin a c f h' d kp e) ↥125
inductive cI_call_tuple_of (K:af) (xs:List V) (H:Hp) (Q:VK):Prop
 | mk (p:_) (ys:_) (_:xs=[.ref p]) (_:((SqL K H p ys/\∀l,H l=none->Q (.ref l) (upd H l (.tup ys)))\/(SqT K H p ys/\Q (.ref p) H)))
theorem J7:xf X (.type "tuple") (cI_call_tuple_of X.K):=by
 intro pins s σ H xs l Q I r h
 obtain ⟨p,ys,rfl,h⟩:=h
 obtain ⟨u,rfl,i⟩:=vq r
 cases i
 rcases h with ⟨d,q⟩ | ⟨d,q⟩
 ·obtain ⟨a,c,pl,f⟩:=I.list d
  have j:=c.length
  refine call_tuple_list pl.isList (λh' kp=>?_) ↥125
  have g:Inv X pins σ H { s with heap:=h' }:=I.kept (t':=s.toks) kp
  have k:Inv X pins σ (upd H h'.objs.size (.tup ys)) { s with heap:=h'.push { cls:=.type "tuple",data:=.seq a.toArray } } :=
   g.laid (t':=s.toks) (λb o e=>ah _ e) (ak _) (show qq X.prog X.w _ _ _ (.tup ys) from ⟨f,a,c,IsTup.new _ _⟩)
  exact ⟨.ref h'.objs.size,_,k,rfl,q _ (g.hok.fresh (ak _))⟩
 ·obtain ⟨a,c,pl,f⟩:=I.tuple d
  exact call_tuple_same pl ⟨.ref p,H,I,rfl,q⟩
noncomputable def tyV (K:af) (T:String) (x:V) (H:Hp):Prop:=match x with
 | .str _=>T = "str"
 | .int _=>T = "int"
 | .ref p=>(T = "list" /\ ∃xs,SqL K H p xs)\/(T = "tuple" /\ ∃o,K.lookup p=some o/\o.cls = .type "tuple" /\ o.dict=none) \/
   (T = "dict" /\ ((∃kvs,H p=some (.dK kvs))\/∃kvs,H p=some (.dT kvs)))\/(T = "set" /\ ∃S n,H p=some (.set S n))
 | _=>False
theorem WI {T:String}(I:Inv X pins σ H s) (r:jE x v) (ty:tyV X.K T x H) :
  s.TypeIs v T/\∀a,v = .ref a->∃j,s.heap.get? a=some j/\j.dict=none:=by
 cases x with
 | str z =>
  obtain ⟨t,rfl⟩:=r
  cases (show T = "str" from ty)
  exact ⟨typeIs_str s z t,λ_ e=>nomatch e⟩
 | int i =>
  obtain ⟨t,rfl⟩:=r
  cases (show T = "int" from ty)
  exact ⟨typeIs_int s i t,λ_ e=>nomatch e⟩
 | ref p =>
  cases r
  rcases ty with ⟨rfl,xs,g⟩ | ⟨rfl,o,b,h,d⟩ | ⟨rfl,b⟩ | ⟨rfl,S,n,b⟩
  ·obtain ⟨k,_,pl,_⟩:=I.list g
   refine ⟨pl.isList.typeIs,λa e=>?_⟩
   cases e
   obtain ⟨o,n,e,c,d,_⟩:=pl
   exact ⟨o,e,d⟩
  ·refine ⟨⟨o,I.kIn p o b,h⟩,λa e=>?_⟩
   cases e
   exact ⟨o,I.kIn _ o b,d⟩
  ·have z:∃o,s.heap.get? p=some o/\o.ExactDict:=by
    rcases b with ⟨kvs,b⟩ | ⟨kvs,b⟩
    ·obtain ⟨_,_,_,_,o,_,_,e,ex,_⟩:=I.hok p _ b
     exact ⟨o,e,ex⟩
    ·obtain ⟨_,_,_,_,o,_,_,e,ex,_⟩:=I.hok p _ b
     exact ⟨o,e,ex⟩
   obtain ⟨o,e,ex⟩:=z
   refine ⟨⟨o,e,ex.1⟩,λa f=>?_⟩
   cases f
   exact ⟨o,e,ex.2.1⟩
  ·obtain ⟨o,_,_,_,e,ex,_⟩:=I.hok p _ b
   refine ⟨⟨o,e,ex.1⟩,λa f=>?_⟩
   cases f
   exact ⟨o,e,ex.2.1⟩
 | _=>exact bM ty
noncomputable def tBM (K:af) (T:String) (r:V->List V->Hp->VK->Prop) (to:TE) (t:TA):TE:=λσ H Q=>to σ H λx H1=>tyV K T x H1/\t σ H1 λxs H2=>r x xs H2 Q
variable {o e:Expr}{es:List Expr}{to:TE}{t:TA}{name:Str}{apos cpos:Pos}{T id:String}{r:V->List V->Hp->VK->Prop}
theorem Eb (pa:PlainAttrs T) (Y:Slot T name id) (ac:A6 (.builtin id)=pure (.type "method_descriptor")) (hm:MtR X id r) (ho:PE X o to) (ha:PA X (e::es) t)
  (U:i5 o name X.env (eval o X.env)=eval o X.env:=by rfl)
  (ab:((dh cpos (aU (e::es) X.env)).all (λx=>!x.1) && (lV cpos (fQ [] X.env)).all (λx=>x.1.isSome)
   && decide ((e::es).length+([]:List nk).length+(if ([]:List nk).isEmpty then 0 else 1)<30))=true:=by rfl)
  (G:(apos.endLine == cpos.line)=true:=by rfl) (hs:aU (e::es) X.env=↥39::aU es X.env:=by rfl) (j:(dh cpos (aU es X.env)).any (·.1)=false:=by rfl) :
  PE X (.Call (.Attribute o name apos) (e::es) [] cpos) (tBM X.K T r to t):=by
 intro pins s σ H Q I h
 refine wpAny_Call_method_late U ab G rfl (thn (ho pins s σ H _ I h) λv s1 ⟨x,H1,c,a,ty,l⟩=>?_)
 obtain ⟨h1,h2⟩:=WI c a ty
 refine ⟨T,id,pa,Y,ac,h1,h2,?_⟩
 have b:=ha cpos pins s1 σ H1 _ c l
 rw [hs] at b ⊢
 refine nB (by show (false || (dh cpos (aU es X.env)).any (·.1))=false;rw [j] <;> rfl) (iY ?_)
 exact thn b λf g ⟨d,H2,m,i,k⟩=>hm pins g σ H2 x d v f Q m a i k
end
end L2
namespace L2
noncomputable def MtM (X:Cx) (id:String) (r:V->List V->Hp->VK->Prop):Prop :=
 ∀(pins:List (Addr×Obj)) (s:Shared) (σ:St) (H:Hp) (x:V) (xs:List V) (v:ai) (a:List ai) (Q:VK),Inv X pins σ H s->jE x v->jG xs a->r x xs H Q ->
  ax ↥6 X.A (call (.builtin id) (v::a)) ↥62 X.xe s
theorem jG.one:∀{x:V}{us:List ai},jG [x] us->∃u,us=[u]/\jE x u
 | _,_,.cons r .nil=>⟨_,rfl,r⟩
theorem jG.dropLast {xs:List V}(h:jG xs us):jG xs.dropLast us.dropLast:=by
 induction h with
 | nil=>exact .nil
 | cons r t a =>
  cases t with
  | nil=>exact .nil
  | cons q b=>exact .cons r a
theorem jG.reverse {xs:List V}(h:jG xs us):jG xs.reverse us.reverse:=by
 induction h with
 | nil=>exact .nil
 | cons r t a=>rw [mm,mm];exact jG.append a (.cons r .nil)
section
variable {X:Cx}{pins:List (Addr×Obj)}{σ:St}{H:Hp}{s:Shared}{l b:Addr}{xs ys zs:List V}
theorem Inv.lset {its its':List ai}{n:Nat}{f:Array ai->Array ai}{t':Nat}(I:Inv X pins σ H s) (Y:H l=some (.lst xs))
  (e:s.heap.get? l=some { cls:=.type "list",data:=.seq its.toArray n }) (U:f its.toArray=its'.toArray) (G:jG ys its') (j:ys.length<=sizeLine) :
  Inv X pins σ (upd H l (.lst ys)) { s with heap:=s.heap.update l (aS f),toks:=t' }:=by
 have q:=PySem.IsL.update e f
 rw [U] at q
 refine I.write (x:=l) (e:=l) (by rw [Y];exact trivial) (.inl rfl) (λc u b a=>(d8 s.heap (aS f) (cV b)).trans a) ⟨_,q⟩ ?_
 exact ⟨j,its',_,G,q⟩
theorem Inv.lnew {t':Nat}(I:Inv X pins σ H s) (G:jG ys its) (j:ys.length<=sizeLine) :
  Inv X pins σ (upd H s.heap.objs.size (.lst ys)) { s with heap:=s.heap.push { cls:=.type "list",data:=.seq its.toArray },toks:=t' } :=
 I.laid (λ_ _ q=>ah _ q) (ak _) ⟨j,its,0,G,aE _ rfl⟩
theorem Inv.fresh (I:Inv X pins σ H s):H s.heap.objs.size=none:=I.hok.fresh (ak _)
theorem Inv.lstM (I:Inv X pins σ H s) (j:H l=some (.lst xs)):xs.length<=sizeLine/\∃(its:List ai) (n:Nat),jG xs its/\xs.length=its.length/\s.heap.get? l=some { cls:=.type "list",data:=.seq its.toArray n }:=by
 obtain ⟨z,its,n,r,e⟩:=I.hok l _ j
 exact ⟨z,its,n,r,r.length,e⟩
theorem QE {n:Nat}(h:n<=sizeLine):eI n=false:=by
 unfold eI
 exact decide_eq_false ∅
end
section
variable {X:Cx}
inductive rAppend  (x:V) (vs:List V) (H:Hp) (Q:VK):Prop
 | mk (l:_) (xs:_) (y:_) (_:x = .ref l) (_:vs=[y]) (_:H l=some (.lst xs)) (_:xs.length<sizeLine) (_:Q .non (upd H l (.lst (xs++[y]))))
theorem qh:MtM X "list.append" rAppend:=by
 intro pins s σ H x g v i Q I c d h
 obtain ⟨l,xs,y,rfl,rfl,b,j,q⟩:=h
 cases c
 obtain ⟨u,rfl,f⟩:=d.one
 obtain ⟨z,a,n,r,k,e⟩:=I.lstM b
 refine nE F.slot_list_append ⟨_,e,rfl⟩ F.entry_list_append (F.args_list_append_2 _ _) (PySem.list_append l a.toArray n u (by rw [au];omega)) ⟨e,?_⟩
 refine ⟨.non,_,I.lset (its':=a++[u]) b e (by simp) (r.append (.cons f .nil)) ?_,rfl,q⟩
 rw [ar,bu]
 omega
inductive rExtend  (x:V) (vs:List V) (H:Hp) (Q:VK):Prop
 | mk (l:_) (b:_) (xs:_) (zs:_) (_:x = .ref l) (_:vs=[.ref b]) (_:H l=some (.lst xs)) (_:H b=some (.lst zs)) (_:xs.length+zs.length<=sizeLine) (_:Q .non (upd H l (.lst (xs++zs))))
theorem GG:MtM X "list.extend" rExtend:=by
 intro pins s σ H x A v B Q I i j h
 obtain ⟨l,b,xs,zs,rfl,rfl,g,p,C,q⟩:=h
 cases i
 obtain ⟨u,rfl,k⟩:=j.one
 cases k
 obtain ⟨z,c,n,r,D,e⟩:=I.lstM g
 obtain ⟨y,a,o,m,w,t⟩:=I.lstM p
 have f:c.toArray.size+a.toArray.size<=sizeLine:=by rw [au,au];omega
 have d:¬(!c.toArray.isEmpty && eI (c.toArray.size+a.toArray.size))=true:=by
  rw [QE f,tj]
  exact aq
 refine nE F.slot_list_extend ⟨_,e,rfl⟩ F.entry_list_extend (F.args_list_extend_2 _ _)
  (AutoSeq1.list_extend_list_list_0 l c.toArray n b a.toArray o d (by rw [au];omega) ∅) ⟨e,t,?_⟩
 refine ⟨.non,_,I.lset (its':=c++a) g e (by simp) (r.append m) ?_,rfl,q⟩
 rw [ar]
 omega
inductive rCat  (x:V) (y:V) (H:Hp) (Q:VK):Prop
 | mk (l:_) (b:_) (xs:_) (zs:_) (_:x = .ref l) (_:y = .ref b) (_:H l=some (.lst xs)) (_:H b=some (.lst zs)) (_:xs.length+zs.length<=sizeLine) (_:∀p,H p=none->Q (.ref p) (upd H p (.lst (xs++zs))))
theorem WH:OpR X (iX .Add) rCat:=by
 intro pins s σ H x y v u Q I f d h
 obtain ⟨l,b,xs,zs,rfl,rfl,i,j,w,q⟩:=h
 cases f
 cases d
 obtain ⟨z,c,n,r,A,e⟩:=I.lstM i
 obtain ⟨p,a,t,g,o,m⟩:=I.lstM j
 refine PySem.P.add_list e m ?_ (by rw [au,au];omega)
 have k:c.toArray++a.toArray=(c++a).toArray:=by simp
 rw [k]
 exact ⟨.ref _,_,I.lnew (t':=s.toks) (r.append g) (by rw [ar];omega),rfl,q _ I.fresh⟩
end
section
variable {prog:Program}{w:bx}{A:bC}{E:ai->Shared->Prop}{s:Shared}
set_option maxRecDepth 100000 in
end
section
variable {X:Cx}
end
end L2
namespace Att
open PySem PySem.W PySem.Calls PyProof.Rows
theorem wX :∀(ns:List Int) (vs:List ai),WellAll P h vs (ns.map WData.int)->dv vs ns:=by
 intro ns
 induction ns with
 | nil =>
  intro vs w
  rw [lM] at w
  cases w
  exact .nil
 | cons n ns c =>
  intro vs w
  rw [aQ] at w
  cases w with
  | cons a b =>
   cases a
   exact .cons _ _ (c _ b)
theorem YJ {l:OpenLaw}{n:Nat}(U:l.most=some n) 
  (j:l.row.toRowW.claim.pre args=true) (I:WellAll P h G args) :
  ∃a vs ns,G=[b8 a]/\args=[WData.list (ns.map WData.int)]/\h.get? a=some { cls:=.type "list",data:=.seq vs.toArray }/\dv vs ns/\ns.length<=n:=by
 have g:WShape.hasAll [] args [.list .int]=true:=(pre_splitW j).1
 have i:l.pre.holds [] { args:=args }=true:=(pre_splitW j).2
 obtain ⟨d,r,rfl,h1,h2⟩:=hasAllW_cons g
 obtain rfl:=hasAllW_nil h2
 obtain ⟨xs,rfl,s⟩:=hasW_list h1
 obtain ⟨ns,rfl⟩:=items_int s
 have e:ns.length<=n:=by
  unfold OpenLaw.pre at i
  have c:(WTm.not (.lt (.lit (.int (n:Int))) (.len (.arg 0)))).holds [] { args:=[.list (ns.map .int)] }=true:=by
   have c:=(holds_andW i).1
   rw [U] at c
   exact c
  have b:=condW_of c (w_not (w_lt w_lit (w_len_list (w_arg rfl))))
  rw [ag] at b
  refine Nat.le_of_not_lt λq=>?_
  have o:(n:Int)<((ns.length:Nat):Int):=∅
  first
   | (rw [decide_eq_true o] at b;exact absurd b ⋯)
   | (simp at b;omega)
 cases I with
 | cons m k =>
  cases k
  cases m with
  | list p f=>exact ⟨_,_,ns,rfl,rfl,p,wX ns _ f,e⟩
theorem Yy (l:OpenLaw) (args:List WData):l.row.toRowW.claim.post args (.bool true) args=true :=
 postW_of (r:=l.row.toRowW) (X:=(true == true))
  (show WShape.has [] (.bool true) .bool=true by first | rfl | decide | simp [WShape.has,WShape.arms,WShape.armsAll])
  (show (WTm.eq .res (.lit (.bool true))).value [] { args:=args,res:=some (.bool true),after:=args }=some (.bool (true == true)) from w_eq_bool (w_res rfl) w_lit) rfl
theorem attach_call {l:OpenLaw}{n:Nat}{q:Program}{loose:List Str}{XP:(Str->Option ai)->Heap->Prop}{YP:bx->Heap->Prop}{d:DefRec}
  (hn:l.most=some n) (ab:d.params.defaults=[])
  (call:∀(w:bx) (s₀ j:Shared) (mg mb:Str->Option ai) (I:Addr) (o:Obj) (pm U doc:ai) (a:Addr) (vs:List ai) (ns:List Int),
   Ground q loose [] XP w s₀ mg mb j.heap->YP w j.heap ->
   j.heap.get? I=some o->o.data = .func (docDef d.name d.params d.body d.scope pm U doc)->j.heap.CodeRec U d.name->mg d.name=some (.ref I) ->
   j.heap.get? a=some { cls:=.type "list",data:=.seq vs.toArray }->dv vs ns->ns.length<=n->j.gens = #[] ->
   dO (ay l.prog w) pf (.call (.ref I) ⟨[.ref a],[]⟩) (λr s'=>r = .ok (.ret (.bool true))/\OldK j.heap s'.heap/\s'.os=j.os/\iU s'.gens) j) :
  WalkO q loose XP YP l.row.toRowW d [] (λf vs=>PySem.call f vs):=by
 intro w s₀ j mg mb G Y I o pm U doc B kV t y k m i x C p H c v D h E
 obtain rfl:B = .none:=Dflts.none m ab
 obtain rfl:kV = .none:=Dflts.noKw m
 obtain ⟨a,vs,ns,rfl,rfl,e,b,g⟩:=YJ hn c h
 refine enter_call (eE (call w s₀ j mg mb I o pm U doc a vs ns G Y t (fd_plain y) k i e b g x) λr s' s=>?_)
 obtain ⟨rfl,h2,A,z⟩:=s
 exact ⟨.inl ⟨.bool true,.bool true,[],rfl,λ_=>rfl,.bool true,Yy l _,λ_=>⟨fM,λ_ u=>(nomatch u)⟩⟩,h2,A,z⟩
section
variable {prog:Program}{w:bx}{A:bC}{E:ai->Shared->Prop}{s:Shared}{K:Frag}
noncomputable def ledger (h:Heap) (L d:Addr):List (Addr×Obj):=(aW h.objs.size).filterMap λa=>if a=L\/a=d then none else (h.get? a).map λo=>(a,o)
end
end Att
namespace L2
theorem wn:∀{vs:List ai}{ns:List Int},dv vs ns->jG ↥117 vs
 | _,_,.nil=>.nil
 | _,_,.cons n t h=>.cons ⟨t,rfl⟩ (wn h)
end L2
namespace L2
end L2
namespace L2
noncomputable def zy (s:Stmt) (j:Nat):Stmt:=match s with
 | .ClassDef _ _ _ body _ _ _ _ _ _ _=>body.getD j (.Pass ⟨0,0,0,0⟩)
 | _=>.Pass ⟨0,0,0,0⟩
noncomputable def qf (s:Stmt):Arguments:=match s with
 | .FunctionDef _ a _ _ _ _ _ _ _ _=>a
 | _=>{ posonlyargs:=[],args:=[],vararg:=none,kwonlyargs:=[],kw_defaults:=[],kwarg:=none,defaults:=[] }
noncomputable def jS (s:Stmt):List Stmt:=match s with
 | .FunctionDef _ _ b _ _ _ _ _ _ _=>b
 | _=>[]
noncomputable def ja (s:Stmt):Scope:=match s with
 | .FunctionDef _ _ _ _ _ _ a _ _ _=>a
 | _=>{ kind:=.function,names:=[],isGenerator:=false,isCoroutine:=false }
noncomputable abbrev CX0:CXT:=λ_ _ _ _ _ _=>False
noncomputable abbrev E0:XK:=λ_ _ _=>False
theorem Wk :JU CX0 X E0:=λ_ _ _ _ _ _ _ h=>h.elim
structure Fun (K:af) (x qual:Str) (st:Stmt) (f:Addr) (fd:FuncData):Prop where
 ex:∃(oc:ai) (od:Option Addr) (kV doc pm:ai) (an:Option Addr) (cdv ct:ai) (osl:Array (Option ai)),
  fd=bO x qual (qf st) (jS st) (ja st) .none kV doc pm an cdv ct/\K.lookup f=some ⟨oc,od,.func fd,osl⟩/\d6 K cdv qual=true
 kp:cp K (.ref f)=true
section
variable {P:Program}{w:bx}{K:af}{mg:Str->Option ai}{base:Heap}
theorem Fun.ok {x:Str}{st:Stmt}{f:Addr}{N:List Str}{k:Nat}{sp:Sp}(F:Fun K x G st f fd) (S:FnScope N ps (ja st)) (len:∀vs H Q E,sp vs H Q E->vs.length=ps.length)
  (I:∀(j:ai) (A:bC) (outer:List Env) (s:Shared) (H:Hp) (vs:List V) (Q:VK) (E:XK),Room k (A.deeper (mE G (ja st) s.heap.objs.size f j))->sp vs H Q E ->
   ∃t,PSs (uk CX0 P w K mg base N G (ja st) f j A outer s H E).nox (jS st) t/\t { nx:=λ_ H'=>Q .non H',rt:=Q } (start N vs) H):FnOk P w K mg base CX0 (k+1) f fd ps sp:=by
 obtain ⟨i,g,kV,doc,pm,m,j,l,e,rfl,c,b⟩:=F.ex
 refine Vz c b S len λA outer s H vs Q E d a=>?_
 obtain ⟨t,h,q⟩:=I j A outer s H vs Q E d a
 exact ⟨t,h.nox,q⟩
theorem Fun.binds {x:Str}{st:Stmt}{f:Addr}{ps:List Str}(F:Fun K x G st f fd)
  (h:∀(kV doc pm:ai) (U:Option Addr) (j I:ai) (us:List ai),us.length=ps.length->d5 (bO x G (qf st) (jS st) (ja st) .none kV doc pm U j I) ⟨us,[]⟩=pure (ps.zip us)):yR K fd ps []:=by
 obtain ⟨d,c,kV,doc,pm,U,j,I,a,rfl,e,b⟩:=F.ex
 exact .all (h kV doc pm U j I)
theorem vV {st:Stmt}{Y:ai}{U:Option Addr}{I:Array (Option ai)}{kV pm:ai}(l:K.lookup f=some ⟨Y,U,.func (bO x j (qf st) (jS st) (ja st) .none kV doc pm an G ct),I⟩)
  (c:d6 K G j=true) (k:cp K (.ref f)=true):Fun K x j st f (bO x j (qf st) (jS st) (ja st) .none kV doc pm an G ct):=⟨⟨Y,U,kV,doc,pm,an,G,ct,I,rfl,l,c⟩,k⟩
end
theorem qk {k:Nat}(j:Room k A):A.units+1<cLine:=c5 (Nat.add_le_add_left (by decide:1<=64) _) j.units
theorem jj {n:Nat}(h:n<=1000):n<sizeLine:=c5 h ⋯
section
variable {X:Cx}
theorem pv (i:Nat) {pos:Pos}(U:X.N[i]? = some x:=by rfl) (G:Vis X.env.scope x:=by first | exact aR rfl | exact lr (aR rfl) | exact lr (lr rfl)) (I: ↥30=false:=by decide)
  (j:(x == ("__classdict__" : Str))=false:=by decide):PE X (.Name x pos) (tVar i):=WC U G I j
end
theorem gp {A B:Prop}(h:B):if false=true then A else B:=by
 rw [if_neg aq]
 exact h
theorem vW {A B:Prop}(h:A):if true=true then A else B:=by
 rw [if_pos rfl]
 exact h
noncomputable def jo (H H':Hp):Prop:=∀b o,H b=some o->H' b=some o
theorem jo.refl (H:Hp):jo H H:=λ_ _ h=>h
theorem jo.trans (a:jo H H1) (b:jo H1 H2):jo H H2:=λc o h=>b c o (a c o h)
theorem jo.free (e:jo H H') {l:Addr}(h:H' l=Option.none):H l=Option.none:=by
 cases q:H l with
 | none=>rfl
 | some o =>
  rw [e l o q] at h
  cases h
end L2
section
namespace L2
theorem Zg (env:Env) (f:Str×ir->List (Str×Addr)->Sem (ForInStep (List (Str×Addr))))
  (I:∀n k r,f (n,k) r=if (k == br)=true then (A7 env n >>= λa=>pure (cq ((n,a)::r))) else pure (cq r)) :
  ∀(j:List (Str×ir)) (acc:List (Str×Addr)),(∀x∈j,x.2 = .free->∃c,env.cells.lookup x.1=some c) ->
  ∃G,mU j acc f=pure G/\∀x,G.lookup x=if (x,br)∈j then env.cells.lookup x else acc.lookup x:=by
 intro j
 induction j with
 | nil=>intro acc _;exact ⟨acc,rfl,λx=>by rw [if_neg (by simp)]⟩
 | cons y r l =>
  intro acc h
  obtain ⟨n,k⟩:=y
  have m:∀x∈r,x.2 = .free->∃c,env.cells.lookup x.1=some c:=λx d=>h x (aK _ d)
  by_cases g:k = .free
  ·subst g
   obtain ⟨c,o⟩:=h (n,.free) aM rfl
   obtain ⟨G,e,p⟩:=l ((n,c)::acc) m
   refine ⟨G,?_,λx=>?_⟩
   ·rw [lu,I,if_pos (by rfl)]
    have q:A7 env n=pure c:=by unfold A7;rw [o]
    rw [q]
    exact e
   ·rw [p x]
    by_cases d:x=n
    ·subst d
     rw [if_pos (aM),cR,beq_self_eq_true]
     by_cases b:(x,br)∈r
     ·rw [if_pos b]
     ·rw [if_neg b];exact o.symm
    ·have i:(x == n)=false:=beq_eq_false_iff_ne.mpr d
     rw [cR,i]
     by_cases b:(x,br)∈r
     ·rw [if_pos b,if_pos (aK _ b)]
     ·rw [if_neg b,if_neg (by
       intro z
       rcases List.mem_cons.mp z with z | z
       ·exact d (congrArg Prod.fst z)
       ·exact b z)]
  ·obtain ⟨G,e,p⟩:=l acc m
   have i:(k == br)=false:=by simpa using g
   refine ⟨G,?_,λx=>?_⟩
   ·rw [lu,I,i,if_neg aq]
    exact e
   ·rw [p x]
    by_cases b:(x,br)∈r
    ·rw [if_pos b,if_pos (aK _ b)]
    ·rw [if_neg b,if_neg (by
      intro z
      rcases List.mem_cons.mp z with z | z
      ·exact g (congrArg Ad z).symm
      ·exact b z)]
theorem ud {scope:Scope}{env:Env}(h:∀x∈scope.names,x.2 = .free->∃c,env.cells.lookup x.1=some c) :
  ∃j,pS scope env=pure j/\∀x,j.lookup x=if (x,br)∈scope.names then env.cells.lookup x else none:=by
 have d:=Zg env (λ(x:Str×ir) r=>match x with | (n,k)=>if (k == br)=true then (A7 env n >>= λa=>pure (cq ((n,a)::r))) else pure (cq r)) (λ_ _ _=>rfl) scope.names [] h
 obtain ⟨j,e,p⟩:=d
 refine ⟨j,?_,λx=>by rw [p x];rfl⟩
 unfold pS
 have b:mU scope.names ([]:List (Str×Addr)) (λ(x:Str×ir) r=>match x with | (n,k)=>if (k == br)=true then (A7 env n >>= λa=>pure (cq ((n,a)::r))) else pure (cq r))=(pure j:Sem _):=e
 show (mU scope.names ([]:List (Str×Addr)) _ >>= λf=>pure f)=_
 first
  | (rw [b];rfl)
  | (simp only [bind_pure];exact b)
structure CompSc (osc:Scope) (ON:List Str) (scope:Scope) (own:Nat) (N:List Str) (caps:List Nat):Prop where
 kind:scope.kind = .function
 nocell:∀y∈scope.names,y.2≠.cell
 loc:∀y∈scope.names,y.2 = .local->scope.names.lookup y.1=some .local
 fre:∀y∈scope.names,y.2 = .free->scope.names.lookup y.1=some .free/\(osc.names.lookup y.1=some .cell\/osc.names.lookup y.1=some .free)
 len:N.length=own+caps.length
 cap:∀p∈(N.drop own).zip caps,ON[p.2]? = some p.1/\(p.1,br)∈scope.names
noncomputable def vP (own:Nat) (caps:List Nat) (σ:St):St:=dU own none++caps.map λj=>(σ[j]?).getD none
noncomputable def Cx.block (X:Cx) (scope:Scope) (j:List (Str×Addr)) (C:Addr) (N:List Str) (s:Shared) (H:Hp) (ex:List Addr):Cx :=
 { X with N:=N,s₀:=s,H₀:=H,env:=tm scope j C X.env,outer:=X.stack,ex:=ex,fn:=λx=>decide (scope.names.lookup x=some .local),pn:=[],xe:=λ_ _=>False }
theorem yI {env:Env}:∀{j:List (Str×ir)}{x:Str}{k:ir},
  (j.map λ(n,k)=>if ↥82 then (n,iV) else (n,k)).lookup x=some k ->
  ∃G,j.lookup x=some G/\(G=k\/(G = .free/\k = .cell))
 | [],_,_,h=>by simp at h
 | (n,c)::r,x,k,h=>by
  have f:=@yI env r x k
  have h':eZ x ((if ↥83=true then (n,iV) else (n,c))::r.map λ(n,k)=>if ↥82 then (n,iV) else (n,k))=some k:=h
  cases a:x == n with
  | true =>
   by_cases b: ↥83=true
   ·rw [if_pos b,cR,a] at h'
    cases h'
    refine ⟨c,by rw [cR,a],.inr ⟨?_,rfl⟩⟩
    rw [bt,bt] at b
    exact eq_of_beq b.1.1
   ·rw [if_neg b,cR,a] at h'
    cases h'
    exact ⟨c,by rw [cR,a],.inl rfl⟩
  | false =>
   have h2:eZ x (r.map λ(n,k)=>if ↥82 then (n,iV) else (n,k))=some k:=by
    by_cases b: ↥83=true
    ·rw [if_pos b,cR,a] at h';exact h'
    ·rw [if_neg b,cR,a] at h';exact h'
   obtain ⟨G,e,d⟩:=f h2
   exact ⟨G,by rw [cR,a];exact e,d⟩
noncomputable def JO (X:Cx) (ifs:List Expr) (t:TT):Prop :=
 ∀(pins:List (Addr×Obj)) (s:Shared) (σ:St) (H:Hp) (Q:Bool->Hp->Prop),Inv X pins σ H s->t σ H Q ->
  ax ↥6 X.A (mU ifs true λc r=>if r=true then do let ok <- isTrue c X.env (eval c X.env);pure (cq ok) else pure (cq r)) (TP X pins σ Q) X.xe s
noncomputable def GR:TT:=λ_ H Q=>Q true H
theorem jQ :JO X [] GR:=λ_ _ _ H _ I h=>wpAny_tests_nil ⟨H,I,h⟩
theorem yk {t:TT}(h:PT X c t):JO X [c] t:=λpins s σ H Q I a=>wpAny_tests_one (h pins s σ H Q I a)
section
variable {prog:Program}{w:bx}{A:bC}{R:pQ->Shared->Prop}{s:Shared}
theorem QK {elt target iter:Expr}{ifs:List Expr}{pos:Pos}{it acc:ai}{env:Env}(I:Nat->Shared->Prop)
  (turn:∀n s,I n s->ax (ay prog w) A (lj it) (λr s₁=>match r with
   | none=>R (.ok .next) s₁
   | some v=>ax (ay prog w) A (dG target it v) (λ_ s₂=>ax (ay prog w) A (lh target env v) (λ_ s₃ =>
     ax (ay prog w) A (mU ifs true λc r=>if r=true then do let ok <- isTrue c env (eval c env);pure (cq ok) else pure (cq r)) (λok s₄ =>
      if ok=true then ax (ay prog w) A (eval elt env) (λx s₅ =>
       ax (ay prog w) A (call (.builtin "list.append") [acc,x]) (λ_ s₆=>∃m,m<n/\I m s₆) (λ_ _=>False) s₅) (λ_ _=>False) s₄
      else ∃m,m<n/\I m s₄) (λ_ _=>False) s₃) (λ_ _=>False) s₂) (λ_ _=>False) s₁) (λ_ _=>False) s)
  (n:Nat) (h:I n s) :
  dO (ay prog w) A (.compLoop (.ListComp elt [⟨target,iter,ifs,0⟩] scope pos) 0 it acc env) R s:=by
 refine rH rfl I (λn s hI=>?_) n h
 show ax _ A ((rJ (.ListComp elt [⟨target,iter,ifs,0⟩] scope pos) 0 it acc env).onRaise (λx=>do lR x env;oa x)) _ _ s
 refine sL ?_
 rw [compTurn_list]
 refine aa ↥90
 cases r with
 | none=>exact wpAny_pure h₁
 | some v =>
  refine aa ↥148
  refine aa ↥56
  cases ok with
  | false=>exact wpAny_pure ⟨rfl,h₄⟩
  | true =>
   exact aa (aa (bf h₄ (λx s₅ h₅=>aa (bf h₅ (λ_ s₆ h₆=>wpAny_pure (wpAny_pure ⟨rfl,h₆⟩)) λ_ _ h'=>h'.elim)) λ_ _ h'=>h'.elim))
end
section
variable {X:Cx}{pos:Pos}
noncomputable def Wr (own:Nat) (caps:List Nat) (j:TI) (g:TG) (G:TT) (te:TE):TE:=λσ H Q=>j σ H λJ H1=>∀acc,H1 acc=none ->
 ∃W:Nat->Nat->St->Hp->Prop,(∃m,W 0 m (vP own caps σ) (upd H1 acc (.lst [])))/\∀i m d H',W i m d H' ->
  (J.stop i H'/\Q (.ref acc) H') \/
  (J.go i H'/\∃b:St->Hp->Prop,(∀c H2,b c H2->∃e,e<m/\W (i+1) e c H2) /\
   ∀x H2,J.yld i H' x H2->g x d H2 λa h=>G a h λok f=>if ok=true then te a f λv H5=>∃ys,H5 acc=some (.lst ys)/\ys.length<sizeLine/\b a ↥19 else b a f)
theorem VA {own:Nat}{G:List (Str×Addr)}{C:Addr}{Y:List Addr}
  (S:CompSc osc ON scope own N caps) (ab:X.env.scope=osc) (U:∀x,G.lookup x=if (x,br)∈scope.names then X.env.cells.lookup x else none)
  (I:Inv X pins σ H s) (hC:s.heap.objs.size<=C) (j:∀b∈Y,wE X pins H b) (ac:∀b∈Y,b<s.heap.objs.size):(X.block scope G C N s H Y).Ok:=by
 have a:∀x c,G.lookup x=some c->X.env.cells.lookup x=some c/\(x,br)∈scope.names:=λx c e=>by
  rw [U x] at e
  by_cases h:(x,br)∈scope.names
  ·rw [if_pos h] at e;exact ⟨e,h⟩
  ·rw [if_neg h] at e;cases e
 refine ⟨I.ok.mod,S.kind,I.ok.glob,I.ok.blt,hC,λx y c h1 h2=>I.ok.inj x y c (a x c h1).1 (a y c h2).1,λx q=>?_,λx c h1 h2=>?_,I.ok.hd,I.ok.frames,.inl rfl,λb g=>?_,I.bs,aN I.ok.bsz I.sz,λb o e g=>?_,λb g m=>?_,I.stack,I.stkFree⟩
 ·-- v
  have key:∀k,(k=iV\/k=br)->(relabel scope X.env).names.lookup x=some k->∃c,G.lookup x=some c:=λk r e=>by
   obtain ⟨p,u,d⟩:=yI (env:=X.env) e
   have f:=dM u
   have i:p = .free:=by
    rcases d with d | d
    ·subst d
     rcases r with z | z
     ·exact absurd z (S.nocell _ f)
     ·exact z
    ·exact d.1
   subst i
   obtain ⟨_,l⟩:=S.fre _ f rfl
   obtain ⟨c,t⟩:=I.ok.has x (by unfold tu;rw [ab];exact l)
   exact ⟨c,by rw [U x,if_pos f];exact t⟩
  rcases q with z | z
  ·exact key _ (.inl rfl) z
  ·exact key _ (.inr rfl) z
 ·-- w
  have n:scope.names.lookup x=some .local:=of_decide_eq_true h1
  have h:=(a x c h2).2
  have:=(S.fre _ h rfl).1
  rw [n] at this
  cases this
 ·refine ⟨aF (aX (ac b g) hC),λx c e=>(j b g).2.2.2.2.1 x c (a x c e).1⟩
 ·rcases (j b g).2.2.2.1 with z | z
  ·exact I.ok.noex b o e z
  ·exact absurd (aX (aw e) (aN I.ok.bsz z)) (cX _)
 ·rcases List.mem_cons.mp (I.stkSub b m) with z | z
  ·exact (j b g).2.1 z
  ·exact (j b g).2.2.1 z
theorem wS {N:List Str}{scope:Scope}{own:Nat}{caps:List Nat}{U:List (Str×Addr)}{C D:Addr}{σ:St}{H:Hp}{s:Shared}{h1:Heap}{fp:List Addr}
  (S:CompSc osc ON scope own N caps) (Y:X.env.scope=osc) (hN:X.N=ON) (G:∀x,U.lookup x=if (x,br)∈scope.names then X.env.cells.lookup x else none)
  (I:Inv X pins σ H s) (hf:∀b∈fp,wE X pins H b) (ab:∀b∈fp,b<s.heap.objs.size) (hD:D=s.heap.objs.size) (hC:C=s.heap.objs.size+1)
  (k:∀b o,s.heap.get? b=some o->h1.get? b=some o) (eD:h1.get? D=some { cls:=.type "list",data:=.seq #[] }) (hn:h1.Ns C λ_=>none) (t':Nat) :
  Inv (X.block scope U C N s H fp) [] (vP own caps σ) (upd H D (.lst [])) { s with heap:=h1,toks:=t' }:=by
 subst hD
 subst hC
 have E:s.heap.objs.size<=s.heap.objs.size+1:=fc _
 have ok:=VA (C:=s.heap.objs.size+1) S Y G I E hf ab
 have f:∀x c,U.lookup x=some c->X.env.cells.lookup x=some c/\(x,br)∈scope.names:=λx c e=>by
  rw [G x] at e
  by_cases y:(x,br)∈scope.names
  ·rw [if_pos y] at e;exact ⟨e,y⟩
  ·rw [if_neg y] at e;cases e
 have fr:∀a,s.heap.objs.size<=a->H a=none:=λa ha=>I.hok.fresh ha
 have J:qq X.prog X.w (upd H s.heap.objs.size (.lst [])) h1 s.heap.objs.size (.lst []):=⟨aB _,[],0,.nil,eD⟩
 have r:∀x c,X.env.cells.lookup x=some c->∀v,s.heap.IsCell c v->h1.IsCell c v:=λx c _ v ⟨o,Z,hd⟩=>⟨o,k c o Z,hd⟩
 refine ⟨ok,rfl,I.bare,Un.laid k (ak _) (fr _ (ak _)),⟨_,hn,λi x v e1 h e3=>?_⟩,λx c e=>?_,?_,λx c e=>?_,λp V=>absurd (show p∈([]:List (Addr×Obj)) from V) (by simp),I.hok.laid k (ak _) J,?_⟩
 ·-- al L ac
  have P:N[i]? = some x:=e1
  have hi:own<=i:=by
   by_cases hi:own<=i
   ·exact hi
   ·unfold vP at h
    rw [ee ↥94,mT] at h
    split at h <;> cases h
  obtain ⟨j',rfl⟩:∃j',i=own+j':=⟨i-own,∅⟩
  have g:(caps.map λj=>(σ[j]?).getD none)[j']? = some (some v):=by
   unfold vP at h
   rw [dW (by simp)] at h
   simpa using h
  rw [aH] at g
  cases K:caps[j']? with
  | none=>rw [K] at g;cases g
  | some j =>
   rw [K] at g
   have n:(σ[j]?).getD none=some v:=bB g
   have e4:σ[j]? = some (some v):=by
    cases q:σ[j]? with
    | none=>rw [q] at n;cases n
    | some z=>rw [q] at n;exact congrArg some n
   have T:(x,j)∈(N.drop own).zip caps:=by
    refine aC (i:=j') ?_
    rw [List.getElem?_zip_eq_some]
    exact ⟨by rw [cD];exact P,K⟩
   obtain ⟨c1,M⟩:=S.cap _ T
   obtain ⟨_,hk⟩:=S.fre _ M rfl
   have B:X.env.kindOf x=some .cell\/X.env.kindOf x=some .free:=by unfold tu;rw [Y];exact hk
   obtain ⟨m,y,hl⟩:=I.loc
   obtain ⟨u,Q,l⟩:=hl j x v (by rw [hN];exact c1) e4 (by
    rcases B with z | z
    ·exact .inr (.inl z)
    ·exact .inr (.inr z))
   refine ⟨u,Q,?_⟩
   rcases l with ⟨t,_⟩ | ⟨_,c,O,R⟩
   ·rcases B with z | z
    ·rw [z] at t;cases t
    ·rw [z] at t;cases t
   ·refine .inr ⟨?_,c,by show U.lookup x=some c;rw [G x,if_pos M];exact O,r x c O _ R⟩
    rcases e3 with z | z
    ·obtain ⟨k',A,d⟩:=yI (env:=X.env) z
     have:=(S.fre _ M rfl).1
     rw [A] at this
     cases this
     rcases d with d | d
     ·cases d
     ·cases d.2
    ·exact z
 ·obtain ⟨v,z⟩:=I.cell x c (f x c e).1
  exact ⟨v,r x c (f x c e).1 v z⟩
 ·show upd H s.heap.objs.size (.lst []) ↥12=none
  rw [j8 (dN (iT _))]
  exact fr _ E
 ·have A:=(f x c e).1
  obtain ⟨v,z⟩:=I.cell x c A
  rw [j8 (aF z.lt)]
  exact I.freeC x c A
 ·unfold vP
  show _=N.length
  rw [ar,fG,ag,S.len]
structure BlockAt (X:Cx) (pins:List (Addr×Obj)) (H:Hp) (C:Addr):Prop where
 free:H C=none
 loc:C≠X.env.locals
 new:X.s₀.heap.objs.size<=C
 cell:∀x c,X.env.cells.lookup x=some c->c≠C
 pin:∀p∈X.pn++pins,p.1≠C
theorem BlockAt.gone {s:Shared}(B:BlockAt X pins H C) (I:Inv X pins σ H s) (j:fg C s.heap h'):Inv X pins σ H { s with heap:=h' } :=
 I.turned (t':=s.toks) (λb o a e=>(j.2 b a).trans e) B.free B.loc (.inr B.new) B.cell B.pin
theorem Xk {scope:Scope}{own:Nat}{G:List (Str×Addr)}{tg elt iter:Expr}{ti:TT}{te:TE}{H:Hp}{s:Shared}{j:List Addr}
    {Q:VK} {RR:ai->Addr->pQ->Shared->Prop} 
  (hc:X.calm=true) (S:CompSc osc ON scope own N caps) (aL:X.env.scope=osc) (hN:X.N=ON) (a2:∀x,G.lookup x=if (x,br)∈scope.names then X.env.cells.lookup x else none)
  (hg:∀G C s H ex,PG ↥54 tg g) (a1:∀G C s H ex,JO ↥54 ifs ti) (he:∀G C s H ex,PE ↥54 elt te)
  (I:Inv X pins σ H s) (T:Turn X.prog X.w X.K tg J j it tn) (st:tn 0 s.heap) (hf:∀b∈j,wE X pins H b)
  (hw:∀acc,H acc=none->∃W:Nat->Nat->St->Hp->Prop,(∃m,W 0 m (vP own caps σ) (upd H acc (.lst [])))/\∀i m U H',W i m U H' ->
   (J.stop i H'/\Q (.ref acc) H')\/(J.go i H'/\∃NX:St->Hp->Prop,↥126 /\
    ∀x H2,J.yld i H' x H2->g x U H2 λY H3=>ti Y H3 λok H4=>if ok=true then te Y H4 λv H5=>∃ys,H5 acc=some (.lst ys)/\ys.length<sizeLine/\NX Y ↥19 else NX Y H4))
  (fin:∀(D C:Addr) (H':Hp) (s':Shared),Inv X pins σ H' s'->BlockAt X pins H' C->(∃m,s'.heap.Ns C m)->Q (.ref D) H'->RR (.ref D) C (.ok .next) s') :
  ax ↥6 X.A (sV []) (λacc s₃=>ax ↥6 X.A (tD scope X.env.globals G [] X.env.qual none .none (some X.env)) (λab s₄ =>
   dO ↥6 X.A (.compStart ↥43 0 (.ref it) acc { ab with scope:=relabel scope X.env }) (RR acc ab.locals) s₄) E s₃) E s:=by
 have an:∀b∈j,b<s.heap.objs.size:=λb a=>by
  obtain ⟨o,e,_⟩:=T.obj _ _ st b a
  exact aw e
 refine cO (oK S.nocell (by intro y hy;simp at hy) (λh₁ h f=>?_) S.kind)
 dsimp only at h f ⊢
 generalize O:s.heap.push { cls:=.type "list",dict:=none,data:=.seq ([]:List ai).toArray }=H2 at h f ⊢
 have P:H2.objs.size=s.heap.objs.size+1:=by rw [<- O,cZ]
 have am:∀b o,s.heap.get? b=some o->h₁.get? b=some o:=λb o e=>f.extBut b o (aF (by rw [P];exact bW (aw e))) (ah _ (O ▸ ah _ e))
 have eD:h₁.get? s.heap.objs.size=some { cls:=.type "list",data:=.seq #[] }:=f.extBut _ _ (aF ∅) (ah _ (O ▸ aE _ rfl))
 have a4:H s.heap.objs.size=none:=I.hok.fresh (ak _)
 obtain ⟨W,⟨m0,w0⟩,ap⟩:=hw s.heap.objs.size a4
 have a0:h₁.Ns H2.objs.size λ_=>none:=h
 have I1:Inv ↥35 [] (vP own caps σ) (upd H s.heap.objs.size (.lst [])) { s with heap:=h₁,toks:=s.toks+([]:List (Str×ai)).length } :=
  wS S aL hN a2 I hf an rfl P am eD a0 _
 have al:tn 0 h₁:=T.keep 0 _ _ st λb _ o e=>am b o e
 have R:∀{H':Hp},(∀b∈j,H' b=none)->∀b∈j,wE ↥35 [] H' b:=λ{H'} hn b a=>by
  have ok:=I1.ok
  exact ⟨hn b a,(ok.exf b a).1,ok.exfs b a,.inl a,(ok.exf b a).2,λp hp=>absurd (show p∈([]:List (Addr×Obj)) from hp) (by simp)⟩
 have az:∀{U:St} {H':Hp} {s':Shared},Inv ↥35 [] U H' s'->Q ↥18 H'->RR ↥18 H2.objs.size (.ok .next) s':=λ{U H' s'} t q=>by
  have J2:Inv X pins σ H' s':=I.call' (ch:=j) t.os t.base t.hok t.bare λb a=>⟨(hf b a).2.2.2.1,(hf b a).2.1,(hf b a).2.2.2.2.1,(hf b a).2.2.2.2.2⟩
  obtain ⟨m,hm,_⟩:=t.loc
  refine fin _ _ H' s' J2 ⟨t.free,dN (aX I.lt ∅),aN I.sz ∅,λx c e z=>?_,λp hp z=>?_⟩ ⟨m,hm⟩ q
  ·obtain ⟨v,y⟩:=I.cell x c e
   have h1:H2.objs.size<s.heap.objs.size:=z ▸ y.lt
   exact absurd h1 ∅
  ·have h1:H2.objs.size<s.heap.objs.size:=z ▸ aw (I.pin p hp).1
   exact absurd h1 ∅
 have M:∀s₃:Shared,s₃={ s with heap:=h₁,toks:=s.toks+([]:List (Str×ai)).length } ->
   dO ↥6 X.A (.compLoop ↥43 0 (.ref it) ↥18 (tm scope G H2.objs.size X.env)) (RR ↥18 H2.objs.size) s₃:=by
  rintro s₃ rfl
  refine QK (λn s'=>∃i U H',Inv ↥35 [] U H' s'/\tn i s'.heap/\(∀b∈j,H' b=none)/\W i n U H') ?_ m0
   ⟨0,_,_,I1,al,λb a=>by rw [j8 (aF (an b a))];exact (hf b a).1,w0⟩
  rintro n s3 ⟨i,Y,H3,I3,ac,fr3,w3⟩
  rcases ap i n Y H3 w3 with ⟨as,qn⟩ | ⟨go,NX,a3,step⟩
  ·refine thn (T.done ↥35 rfl rfl rfl hc i [] s3 Y H3 _ I3 (R fr3) ac as) λr s4 ⟨hr,I4⟩=>?_
   subst hr
   exact az I4 qn
  ·refine thn (T.item ↥35 rfl rfl rfl hc i [] s3 Y H3 _ I3 (R fr3) ac go) λr s4 ⟨u,hr,h4⟩=>?_
   subst hr
   refine thn h4 λ_ s5 ⟨x,H5,I5,r5,y5,L,a5⟩=>?_
   have a6:=I5.pinned (R a5) (T.obj _ _ L)
   refine thn (hg G H2.objs.size s H j _ s5 Y H5 x u _ a6 r5 (step x H5 y5)) λ_ s6 ⟨Z,H6,I6,q6⟩=>?_
   refine thn (a1 G H2.objs.size s H j _ s6 Z H6 _ I6 q6) λok s7 ⟨H7,I7,q7⟩=>?_
   have again:∀{l:Shared} {B:St} {k:Hp},Inv ↥35 ([]++zF j s5.heap) B k l->NX B k->∃m,m<n/\∃i U H',Inv ↥35 [] U H' l/\tn i l.heap/\(∀b∈j,H' b=none)/\W i m U H':=λ{l B k} V n8=>by
    obtain ⟨m',hm,w8⟩:=a3 B k n8
    refine ⟨m',hm,i+1,B,k,V.unpinned,T.keep _ _ _ L λb a o e=>(V.pin (b,o) (aJ _ (aJ _ (qV a e)))).1,λb a=>?_,w8⟩
    obtain ⟨o,e,d⟩:=T.obj _ _ L b a
    exact (V.pin (b,o) (aJ _ (aJ _ (qV a e)))).2.1
   cases ok with
   | false =>
    rw [if_neg aq] at q7 ⊢
    exact again I7 q7
   | true =>
    rw [if_pos rfl] at q7 ⊢
    refine thn (he G H2.objs.size s H j _ s7 Z H7 _ I7 q7) λv l ⟨y,k,V,r8,ys,e8,z8,q8⟩=>?_
    refine thn (qh _ l Z k ↥18 [y] _ [v] (λ_ H9=>NX Z H9) V rfl (.cons r8 .nil) ⟨_,ys,y,rfl,rfl,e8,z8,q8⟩) λ_ s9 ⟨_,H9,I9,_,q9⟩=>?_
    exact again I9 q9
 exact nH (M _ rfl) (T.self _ 0 _ _ _ al (M _ rfl))
theorem Zy {scope:Scope}{own:Nat}(S:CompSc osc ON scope own N caps) (j:X.env.scope=osc) (I:Inv X pins σ H s) :
  ∀x∈scope.names,x.2 = .free->∃c,X.env.cells.lookup x.1=some c:=λx a b=>I.ok.has x.1 (by unfold tu;rw [j];exact (S.fre x a b).2)
theorem qc {own:Nat}(S:CompSc osc ON scope own N caps)
  (hc:X.calm=true) (G:X.env.scope=osc) (hN:X.N=ON) (hi:PI X tg iter Y)
  (hg:∀j C s H ex,PG ↥55 tg g) (U:∀j C s H ex,JO ↥55 ifs ti) (he:∀j C s H ex,PE ↥55 elt te)
  (hs:∀x,cY iter X.env x=pure x:=by intro _;rfl):PE X ↥43 (Wr own caps Y g ti te):=by
 intro pins s σ H Q I h
 obtain ⟨j,a,d⟩:=ud (Zy S G I)
 rw [tV]
 refine i7 (use:=none) rfl hs a S.kind S.loc (thn (hi pins s σ H _ I h) λv s1 h1=>thn h1 λo r h2=>?_)
 obtain ⟨it,t,p,J,H2,e,n,T,b,k,f⟩:=h2
 subst e
 refine Xk (RR:=λacc C=>Ae ↥6 X.A X.xe none ↥62 acc C) hc S G hN d hg U he n T b k f λD C H' s' l B ⟨m,i⟩ q=>?_
 exact ⟨m,i,λh' c=>⟨.ref D,H',B.gone l c,rfl,q⟩⟩
theorem ZL {own:Nat}{j:Nat}{spos:Pos}(S:CompSc osc ON scope own N caps)
  (hnd:X.N.Nodup) (hj:X.N[j]? = some y) (hy:Loc X.env.scope y)
  (hc:X.calm=true) (hsc:X.env.scope=osc) (hN:X.N=ON) (hi:PI X tg iter wi)
  (hg:∀cl C s H ex,PG (X.block scope cl C N s H ex) tg g) (hif:∀cl C s H ex,JO (X.block scope cl C N s H ex) ifs ti) (he:∀cl C s H ex,PE (X.block scope cl C N s H ex) elt te)
  (hsw:lQ ↥43 (some (.Name y py)) spos.line X.env=pure true:=by rfl)
  (hf:X.fn y=true\/X.env.scope.names.lookup y=some .local:=by first | exact .inl rfl | exact .inr rfl | assumption)
  (hs:∀x,cY iter X.env x=pure x:=by intro _;rfl):PS X (.Assign [.Name y py] ↥43 spos) (W5 (Wr own caps wi g ti te) (wP j)):=by
 intro pins s σ H D0 I h
 obtain ⟨cl,hclos,hcl⟩:=ud (Zy S hsc I)
 rw [exec_Assign_Name_used _ _ _ _ hsw]
 refine aa (dP (aa ?_))
 show ax _ X.A (do let _ <- comprehension ↥43 scope X.env _ (sV []) false (eval iter X.env) (some (lh (.Name y py) X.env))) _ _ s
 refine aa (bf (i7 (use:=some (lh (.Name y py) X.env)) (Q:=λ_ s'=>SP X pins D0 .next s') rfl hs hclos S.kind S.loc
  (thn (hi pins s σ H _ I h) λv s1 h1=>thn h1 λitv s2 h2=>?_)) (λ_ s' hq=>wpAny_pure (wpAny_pure hq)) λ_ _ e=>e)
 obtain ⟨it,fp,tn,J,H2,e,I2,T,st2,f2,hw⟩:=h2
 subst e
 refine Xk (Q:=λv H'=>D0.nx (σ.set j (some v)) H') (RR:=λacc C=>Ae ↥6 X.A X.xe (some (lh (.Name y py) X.env)) (λ_ s'=>SP X pins D0 .next s') acc C) hc S hsc hN hcl hg hif he I2 T st2 f2 hw λD C H' s' J1 B ⟨m,hm⟩ q=>?_
 show ax _ X.A (lh (.Name y py) X.env (.ref D)) _ _ s'
 refine rg (Jj (v:=V.ref D) J1 hnd hj hy rfl (λs2 J2 ⟨a,hsame,ha⟩=>?_) hf)
 have hCa:C≠a:=by
  rcases ha with z | z
  ·rw [z];exact B.loc
  ·exact λz2=>B.cell y a z z2.symm
 exact ⟨m,hm.sameBut hsame hCa,λh' hs'=>⟨_,H',B.gone J2 hs',q⟩⟩
end
theorem qv {K:af}{xs:List V}{g:TG}{ti:TT}{te:TE}{R:Hp->Prop}{σ:St}{H:Hp}(Pv:Nat->St->Hp->Prop) (h0:Pv 0 σ H) (hl:∀i σ H,i<=xs.length->Pv i σ H->SqL K H a xs)
  (hs:∀i x σ H,xs[i]? = some x->Pv i σ H->g x σ H λj Y=>ti j Y λok G=>if ok=true then te j G λv H5=>∃ys,H5 acc=some (.lst ys)/\ys.length<sizeLine/\Pv (i+1) j ↥19 else Pv (i+1) j G)
  (hd:∀σ H,Pv xs.length σ H->R H) :
  ∃W:Nat->Nat->St->Hp->Prop,↥76/\∀i m I H',W i m I H' ->
   ((Itl K a).stop i H'/\R H')\/((Itl K a).go i H'/\∃U:St->Hp->Prop,↥36 /\
    ∀x H2,(Itl K a).yld i H' x H2->g x I H2 λj Y=>ti j Y λok G=>if ok=true then te j G λv H5=>∃ys,H5 acc=some (.lst ys)/\ys.length<sizeLine/\U j ↥19 else U j G):=by
 refine ⟨λi m σ H=>m=xs.length-i/\i<=xs.length/\Pv i σ H,⟨xs.length,by simp,aB _,h0⟩,?_⟩
 rintro i m σ H ⟨rfl,hi,p⟩
 have q:=hl i σ H hi p
 by_cases b:i<xs.length
 ·refine .inr ⟨⟨xs,xs[i],q,by simp [b]⟩,Pv (i+1),λI H' c=>⟨xs.length-(i+1),∅,rfl,b,c⟩,λx H' y=>?_⟩
  obtain ⟨e,y⟩:=y
  subst e
  exact hs i x σ _ (y xs q) p
 ·have e:i=xs.length:=∅
  subst e
  exact .inl ⟨⟨xs,q,ak _⟩,hd σ H p⟩
theorem Xx {K:af}{xs:List V}{g:TG}{ti:TT}{te:TE}{R:Hp->Prop}{σ:St}{H:Hp}(Pv:Nat->St->Hp->Prop) (h0:Pv 0 σ H) (hl:∀i σ H,i<=xs.length->Pv i σ H->SqT K H a xs)
  (hs:∀i x σ H,xs[i]? = some x->Pv i σ H->g x σ H λj Y=>ti j Y λok G=>if ok=true then te j G λv H5=>∃ys,H5 acc=some (.lst ys)/\ys.length<sizeLine/\Pv (i+1) j ↥19 else Pv (i+1) j G)
  (hd:∀σ H,Pv xs.length σ H->R H) :
  ∃W:Nat->Nat->St->Hp->Prop,↥76/\∀i m I H',W i m I H' ->
   ((Itt K a).stop i H'/\R H')\/((Itt K a).go i H'/\∃U:St->Hp->Prop,↥36 /\
    ∀x H2,(Itt K a).yld i H' x H2->g x I H2 λj Y=>ti j Y λok G=>if ok=true then te j G λv H5=>∃ys,H5 acc=some (.lst ys)/\ys.length<sizeLine/\U j ↥19 else U j G):=by
 refine ⟨λi m σ H=>m=xs.length-i/\i<=xs.length/\Pv i σ H,⟨xs.length,by simp,aB _,h0⟩,?_⟩
 rintro i m σ H ⟨rfl,hi,p⟩
 have q:=hl i σ H hi p
 by_cases b:i<xs.length
 ·refine .inr ⟨⟨xs,xs[i],q,by simp [b]⟩,Pv (i+1),λI H' c=>⟨xs.length-(i+1),∅,rfl,b,c⟩,λx H' y=>?_⟩
  obtain ⟨e,y⟩:=y
  subst e
  exact hs i x σ _ (y xs q) p
 ·have e:i=xs.length:=∅
  subst e
  exact .inl ⟨⟨xs,q,ak _⟩,hd σ H p⟩
theorem xV {lo:Int}{n:Nat}{g:TG}{ti:TT}{te:TE}{R:Hp->Prop}{σ:St}{H:Hp}(Pv:Nat->St->Hp->Prop) (h0:Pv 0 σ H)
  (hs:∀i σ H,i<n->Pv i σ H->g (.int (lo+i)) σ H λj Y=>ti j Y λok G=>if ok=true then te j G λv H5=>∃ys,H5 acc=some (.lst ys)/\ys.length<sizeLine/\Pv (i+1) j ↥19 else Pv (i+1) j G)
  (hd:∀σ H,Pv n σ H->R H) :
  ∃W:Nat->Nat->St->Hp->Prop,↥76/\∀i m I H',W i m I H' ->
   ((Itr lo n).stop i H'/\R H')\/((Itr lo n).go i H'/\∃U:St->Hp->Prop,↥36 /\
    ∀x H2,(Itr lo n).yld i H' x H2->g x I H2 λj Y=>ti j Y λok G=>if ok=true then te j G λv H5=>∃ys,H5 acc=some (.lst ys)/\ys.length<sizeLine/\U j ↥19 else U j G):=by
 refine ⟨λi m σ H=>m=n-i/\i<=n/\Pv i σ H,⟨n,by simp,aB _,h0⟩,?_⟩
 rintro i m σ H ⟨rfl,hi,p⟩
 by_cases a:i<n
 ·refine .inr ⟨a,Pv (i+1),λI H' b=>⟨n-(i+1),∅,rfl,a,b⟩,λx H' y=>?_⟩
  obtain ⟨e,y⟩:=y
  subst e y
  exact hs i σ _ a p
 ·have e:i=n:=∅
  subst e
  exact .inl ⟨ak _,hd σ H p⟩
end L2
end
section
namespace L2
structure Cal (P:Program) (w:bx) (K:af) (mg:Str->Option ai) (base:Heap) (k:Nat) (x:Str) (ps:List Str) (sp:Sp):Prop where
 ex:∃f fd,FnOk P w K mg base CX0 k f fd ps sp/\yR K fd ps []/\mg x=some (.ref f)/\cp K (.ref f)=true
theorem je {X:Cx}{k:Nat}{e:Expr}{es:List Expr}{t:TA}{pos:Pos}(c:Cal X.prog X.w X.K X.mg X.base k x ps sp) (I:Room k X.A) (U:Gl X x) (ha:PA X (e::es) t)
  (G: ↥30=false:=by decide) (Y:aU (e::es) X.env=↥39::aU es X.env:=by rfl) (j: (↥70).any (·.1)=false:=by rfl) :
  PE X ↥75 (Wl sp [] E0 t):=by
 obtain ⟨f,fd,F,d,a,b⟩:=c.ex
 exact UF F I U a b d .nil Wk ha G Y j
theorem Cal.mk' {w:bx}{K:af}{mg:Str->Option ai}{base:Heap}{k:Nat}{x:Str}{ps:List Str}{st:Stmt}{f:Addr}{oc:ai}{od U:Option Addr}{Y:Array (Option ai)}{kV doc pm j I:ai}
  (X:K.In h) (G:h.Ns mainGlobals mg) (a:bb K mainGlobals x=some (some (.ref f)))
  (l:K.lookup f=some ⟨oc,od,.func ↥74,Y⟩) (c:d6 K j x=true) (k':cp K (.ref f)=true)
  (hb:∀(kV doc pm:ai) (U:Option Addr) (j I:ai) (us:List ai),us.length=ps.length->d5 ↥74 ⟨us,[]⟩=pure (ps.zip us))
  (ok:∀{f:Addr} {fd:FuncData},Fun K x x st f fd->FnOk P w K mg base CX0 k f fd ps sp):Cal P w K mg base k x ps sp:=by
 have F:=vV (st:=st) l c k'
 exact ⟨f,_,ok F,F.binds hb,bG X G a,k'⟩
section
variable {X:Cx}
inductive cI_call_isinst (K:af) (xs:List V) (H:Hp) (Q:VK):Prop
 | mk (x:_) (n:_) (t:_) (b:_) (_:xs=[x,.ty n]) (_:TyOf K H x t) (_:bI K t (.type n)=some b) (_:Q (.bl b) H)
theorem XJ:xf X (.builtin "isinstance") (cI_call_isinst X.K):=by
 intro pins s σ H xs f Q I r h
 obtain ⟨x,n,t,b,rfl,ty,e,q⟩:=h
 obtain ⟨u,a,rfl,d,c⟩:=ZW r
 cases (show a=iS n from c)
 exact V3 I d ty e λtk=>⟨.bl b,H,I.tok tk,rfl,q⟩
noncomputable def Wn (i j:Int):Prop:=0<j/\j<2 ^ 200
theorem ux:OpR X (iX .FloorDiv) (rI Wn λi j=>.int (i / j)):=opI λi j _ _ _ _ _ a q=>by
 have h1:(0:Int)<j:=a.1
 have h2:j<2 ^ 200:=a.2
 refine floordiv_int ∅ (by rw [Int.fdiv_eq_ediv_of_nonneg i ∅];exact q) (.inl (PyProof.noPylong_of_log2 ?_))
 have c:j.natAbs<2 ^ 200:=∅
 have b:j.natAbs≠0:=∅
 have:=(Nat.log2_lt b).mpr c
 omega
inductive cI_call_all (K:af) (xs:List V) (H:Hp) (Q:VK):Prop
 | mk (p:Addr) (bs:List Bool) (_:xs=[.ref p]) (_:SqL K H p (bs.map V.bl)) (_:Q (.bl (bs.all λb=>b)) H)
theorem VG (G:X.calm=true):xf X (.builtin "all") (cI_call_all X.K):=by
 intro pins s σ H xs C Q I r h
 obtain ⟨p,bs,rfl,w,q⟩:=h
 obtain ⟨u,rfl,t⟩:=vq r
 cases t
 obtain ⟨a,k,pl,D⟩:=I.list w
 have l:p≠s.heap.objs.size:=by
  obtain ⟨o,n,e,_⟩:=id pl
  exact aF (aw e)
 have j:a.length=bs.length:=by rw [<- k.length,ag]
 have d:∀i v,a[i]? = some v->∃b,bs[i]? = some b/\v=n9 b:=λi v e=>by
  have hi:i<a.length:=(List.getElem?_eq_some_iff.mp e).1
  have c:(bs.map V.bl)[i]? = some (V.bl (bs[i]'∅)):=by rw [aH,ae ∅];rfl
  obtain ⟨u,h1,h2⟩:=k.get c
  rw [e] at h1
  cases h1
  exact ⟨bs[i]'∅,ae ∅,h2⟩
 refine call_all_walk (fL pl.isList ?_)
 refine ⟨s.heap.objs.size,_,_,_,_,_,λi=>bs.getD i true,rfl,Walks.list (show (X.A.in1).handled=none from I.ok.hd G) s.heap.objs.size p l a.toArray,⟨⟨_,aE _ rfl,rfl,rfl⟩,pl.isList.at λo e=>ah _ e⟩,?_,?_⟩
 ·intro i v s' B E y f
  obtain ⟨b,c,rfl⟩:=d i v (by simpa using y)
  have e:bs.getD i true=b:=by rw [ao,c];rfl
  have f:B (bs.getD i true) s':=f
  rw [e] at f
  exact cw f
 ·intro h' tk x
  have e:((aW a.toArray.size).all λi=>bs.getD i true)=bs.all λb=>b:=by
   rw [au,j,fA,bP,bP]
   constructor
   ·intro z b c
    obtain ⟨i,hi,rfl⟩:=List.mem_iff_getElem.mp c
    have:=z i (List.mem_range.mpr hi)
    rw [ao,ae hi] at this
    exact this
   ·intro z i hi
    have g:=List.mem_range.mp hi
    rw [ao,ae g]
    exact z _ (cJ g)
  rw [e]
  refine ⟨.bl _,H,I.kept (t':=tk) λb o m=>x b o (by
   intro z
   have:=List.mem_singleton.mp z
   subst this
   exact absurd (aw m) (cX _)) (ah _ m),rfl,q⟩
end
noncomputable def kitT (a b:String):Option Bool:=if (iS a == iS b)=true then some true else if PySem.W.kitMeta b=true then (fastBuiltinMro a).map (·.contains (.type b)) else none
theorem qo (K:af) (a b:String):bI K (.type a) (.type b)=kitT a b:=rfl
theorem wQ (K:af):bI K (.type "int") (.type "bool")=some false:=(qo K _ _).trans ↥31
theorem hZ (K:af):bI K (.type "int") (.type "int")=some true:=(qo K _ _).trans ↥31
theorem uy (K:af):bI K (.type "bool") (.type "bool")=some true:=(qo K _ _).trans ↥31
theorem Qg (K:af):bI K ↥136 (.type "bool")=some false:=(qo K _ _).trans ↥31
theorem X0 (K:af):bI K ↥136 (.type "int")=some false:=(qo K _ _).trans ↥31
theorem Xh (K:af):bI K ↥136 (.type "str")=some false:=(qo K _ _).trans ↥31
theorem uD (K:af):bI K ↥136 ↥136=some true:=(qo K _ _).trans ↥31
theorem vO (K:af):bI K ↥136 (.type "tuple")=some false:=(qo K _ _).trans ↥31
theorem Ja (K:af):bI K (.type "tuple") (.type "bool")=some false:=(qo K _ _).trans ↥31
theorem Qm (K:af):bI K (.type "tuple") (.type "int")=some false:=(qo K _ _).trans ↥31
theorem Qk (K:af):bI K (.type "tuple") (.type "str")=some false:=(qo K _ _).trans ↥31
theorem vL (K:af):bI K (.type "tuple") ↥136=some false:=(qo K _ _).trans ↥31
theorem vc (K:af):bI K (.type "tuple") (.type "tuple")=some true:=(qo K _ _).trans ↥31
noncomputable def Ext (b:Addr) (H H':Hp):Prop:=∀c o,H c=some o->c≠b->H' c=some o
theorem Ext.refl {b:Addr}:Ext b H H:=λ_ _ h _=>h
theorem Ext.trans {b:Addr}(x:Ext b H H1) (y:Ext b H1 H2):Ext b H H2:=λc o h n=>y c o (x c o h n) n
theorem Ext.of_same {b:Addr}(x:jo H H'):Ext b H H':=λc o h _=>x c o h
theorem Ext.put {b:Addr}:Ext b H (upd H b o):=λc _ h n=>by rw [j8 n];exact h
theorem jo.new {H:Hp}{p:Addr}(n:H p=none):jo H (upd H p o):=λc u h=>by rw [j8 (j4 h n)];exact h
theorem Ext.new {b:Addr}{H:Hp}{p:Addr}(n:H p=none):Ext b H (upd H p o):=Ext.of_same (jo.new n)
theorem Ext.free {b:Addr}(x:Ext b H H') {p:Addr}(h:H' p=none) (n:p≠b):H p=none:=by
 cases q:H p with
 | none=>rfl
 | some o=>rw [x p o q n] at h;cases h
end L2
end
section
namespace L2
section
variable {X:Cx}
theorem jg (K:af) (h:X.K=K:=by rfl):IxR X (rIxL K):=by subst h;exact Uq
theorem ql (K:af) (h:X.K=K:=by rfl):IxR X (rIxT K):=by subst h;exact Wz
theorem ji (K:af) (h:X.K=K:=by rfl):xf X (.builtin "len") (cI_call_len_seq K):=by subst h;exact JV
theorem kA (K:af) (h:X.K=K:=by rfl):OpR X (cg .In) (rIn K false):=by subst h;exact YH
theorem ya (K:af) (h:X.K=K:=by rfl):OpR X (cg .NotIn) (rIn K true):=by subst h;exact Qp
theorem jV (K:af) (h:X.K=K:=by rfl):xf X (.builtin "isinstance") (cI_call_isinst K):=by subst h;exact XJ
theorem yr (K:af) (j:X.calm=true) (h:X.K=K:=by rfl):xf X (.builtin "all") (cI_call_all K):=by subst h;exact VG j
theorem jX (K:af) (j:PE X l tl) (h:X.K=K:=by rfl):PI X tg l (Wt K tl):=by subst h;exact Uz j
theorem uJ (K:af) (j:PE X l tl) (h:X.K=K:=by rfl):PI X tg l (Ef K tl):=by subst h;exact GA j
theorem qj {k:Nat}{t:TGs}{n:Nat}{pos:Pos}(K:af) (I:X.calm=true) (h:PGs X es t)
  (G:(i9 es X.env).length=n:=by rfl) (j:(i9 es X.env).findIdx? (·.1)=none:=by rfl) (U:X.K=K:=by rfl):PG X (.Tuple es k pos) (gTup K n t):=by subst U;exact GD I h G j
theorem zw {T id:String}{e:Expr}{es:List Expr}{t:TA}{apos cpos:Pos}(K:af) (pa:PlainAttrs T) (U:Slot T name id) (ab:A6 (.builtin id)=pure (.type "method_descriptor")) (hm:MtR X id r) (ho:PE X o to) (ha:PA X (e::es) t)
  (I:i5 o name X.env (eval o X.env)=eval o X.env:=by rfl)
  (Y:((dh cpos (aU (e::es) X.env)).all (λx=>!x.1) && (lV cpos (fQ [] X.env)).all (λx=>x.1.isSome)
   && decide ((e::es).length+([]:List nk).length+(if ([]:List nk).isEmpty then 0 else 1)<30))=true:=by rfl)
  (G:(apos.endLine == cpos.line)=true:=by rfl) (hs:aU (e::es) X.env=↥39::aU es X.env:=by rfl) (j:(dh cpos (aU es X.env)).any (·.1)=false:=by rfl) (hK:X.K=K:=by rfl) :
  PE X (.Call (.Attribute o name apos) (e::es) [] cpos) (tBM K T r to t):=by subst hK;exact Eb pa U ab hm ho ha I Y G hs j
end
noncomputable def New (H:Hp) (o:HO) (Q:VK):Prop:=∀p H',H p=none->H' p=some o->jo H H'->Q (.ref p) H'
theorem New.at (h:New H o Q):∀p,H p=none->Q (.ref p) (upd H p o):=λp n=>h p _ n j9 (jo.new n)
section
variable {X:Cx}{es:List Expr}{t:TA}{pos:Pos}
noncomputable def GV (t:TA):TE:=λσ H Q=>t σ H λxs H1=>xs.length<=sizeLine/\New H1 (.tup xs) Q
noncomputable def Eh (t:TA):TE:=λσ H Q=>t σ H λxs H1=>xs.length<=sizeLine/\New H1 (.lst xs) Q
theorem qx {j}(h:PA X es t):PE X (.Tuple es j pos) (GV t):=by
 intro pins s σ H Q I d
 refine wpAny_Tuple_spliced (thn (h pos pins s σ H _ I d) λc s1 ⟨xs,H1,a,r,z,q⟩=>⟨by rw [<- r.length];exact z,?_⟩)
 have f:H1 s1.heap.objs.size=none:=a.hok.fresh (ak _)
 refine ⟨.ref s1.heap.objs.size,upd H1 s1.heap.objs.size (.tup xs),a.laid (t':=s1.toks) (λb u e=>ah _ e) (ak _) ?_,rfl,q.at _ f⟩
 exact ⟨z,c,r,⟨_,aE _ rfl,rfl,_,rfl⟩⟩
theorem jB (h:PA X es t):PE X (.List es pos) (Eh t):=by
 intro pins s σ H Q I d
 refine wpAny_List_spliced (thn (h pos pins s σ H _ I d) λc s1 ⟨xs,H1,a,r,z,q⟩=>⟨by rw [<- r.length];exact z,?_⟩)
 have f:H1 s1.heap.objs.size=none:=a.hok.fresh (ak _)
 refine ⟨.ref s1.heap.objs.size,upd H1 s1.heap.objs.size (.lst xs),a.laid (t':=s1.toks) (λb u e=>ah _ e) (ak _) ?_,rfl,q.at _ f⟩
 exact ⟨z,c,0,r,aE _ rfl⟩
theorem OpR.weak {f:ai->ai->Sem ai}{r':R2}(h:OpR X f r) (w:∀x y H Q,r' x y H Q->r x y H Q):OpR X f r':=λpins s σ H x y v u Q I b a q=>h pins s σ H x y v u Q I b a (w _ _ _ _ q)
theorem xf.weak {f:ai}{r':List V->Hp->VK->Prop}(h:xf X f r) (w:∀x H Q,r' x H Q->r x H Q):xf X f r':=λpins s σ H xs a Q I b q=>h pins s σ H xs a Q I b (w _ _ _ q)
inductive rCatN  (x:V) (y:V) (H:Hp) (Q:VK):Prop
 | mk (l:_) (b:_) (xs:_) (zs:_) (_:x = .ref l) (_:y = .ref b) (_:H l=some (.lst xs)) (_:H b=some (.lst zs)) (_:xs.length+zs.length<=sizeLine) (_:New H (.lst (xs++zs)) Q)
theorem Wh:OpR X (iX .Add) rCatN:=WH.weak λ_ _ _ _ ⟨l,b,xs,zs,h1,h2,d,c,a,q⟩=>⟨l,b,xs,zs,h1,h2,d,c,a,q.at⟩
inductive cI_call_list_ofN (K:af) (xs:List V) (H:Hp) (Q:VK):Prop
 | mk (p:_) (ys:_) (_:xs=[.ref p]) (_:(SqL K H p ys\/SqT K H p ys)) (_:New H (.lst ys) Q)
theorem qH (K:af) (h:X.K=K:=by rfl):xf X ↥136 (cI_call_list_ofN K):=by
 subst h
 exact Qs.weak λ_ _ _ ⟨p,ys,h1,h2,q⟩=>⟨p,ys,h1,h2,q.at⟩
end
theorem qp {A B:Prop} [Decidable p] (h1:p->A) (h2:¬p->B):if decide p=true then A else B:=by
 by_cases h:p
 ·rw [if_pos (decide_eq_true h)];exact h1 h
 ·rw [if_neg (by rw [decide_eq_false h];exact aq)];exact h2 h
theorem yV {A B:Prop} [Decidable p] (h1:¬p->A) (h2:p->B):if (!decide p)=true then A else B:=by
 by_cases h:p
 ·rw [if_neg (by rw [decide_eq_true h];exact aq)];exact h2 h
 ·rw [if_pos (by rw [decide_eq_false h];rfl)];exact h1 h
theorem xg {α:Type}{xs:List α}{i:Int}{v:α}(j:0<=i) (h:xs[i.toNat]? = some v):atI xs i=some v:=by
 obtain ⟨n,rfl⟩:=Int.eq_ofNat_of_zero_le j
 exact zN (by simpa using h)
theorem hE {ns:List Int}{i:Int}(j:0<=i) (h:i<ns.length):∃z,atI ↥117 i=some (.int z):=by
 refine ⟨ns[i.toNat]'∅,xg j ?_⟩
 rw [aH,ae ∅]
 rfl
theorem vn {ns:List Int}{i:Nat}(h: (↥117)[i]? = some y):∃z,y=V.int z:=by
 rw [aH] at h
 cases e:ns[i]? with
 | none=>rw [e] at h;cases h
 | some z=>rw [e] at h;exact ⟨z,(bB h).symm⟩
inductive spMixed  (vs:List V) (H:Hp) (Q:VK) (z_3:XK):Prop
 | mk (a b:Int) (_:vs=[.int a,.int b]) (_:∀r:Int,Q (.int r) H)
inductive spWhole  (vs:List V) (H:Hp) (Q:VK) (z_3:XK):Prop
 | mk (i:Int) (_:vs=[.int i]) (_:Q (.bl true) H)
structure Nb (mg:Str->Option ai):Prop where
 b_len:mg "len" = none
 b_range:mg "range" = none
 b_isinstance:mg "isinstance" = none
 b_int:mg "int" = none
 b_bool:mg "bool" = none
 b_str:mg "str" = none
 b_list:mg "list" = none
 b_tuple:mg "tuple" = none
 b_min:mg "min" = none
 b_max:mg "max" = none
 b_all:mg "all" = none
 b_zip:mg "zip" = none
end L2
end
section
namespace L2
mutual
inductive Rep (M:Addr->Prop) (K:af) (H:Hp):V->PyData->Prop
 | non:Rep M K H .non .none
 | bl (b:Bool):Rep M K H (.bl b) (.bool b)
 | int (i:Int):Rep M K H (.int i) (.int i)
 | str (x:Str):Rep M K H (.str x) (.str x)
 | tup {p:Addr} {vs:List V} {ds:List PyData}:¬M p->SqT K H p vs->RepL M K H vs ds->Rep M K H (.ref p) (.tuple ds)
 | lst {p:Addr} {vs:List V} {ds:List PyData}:¬M p->SqL K H p vs->RepL M K H vs ds->Rep M K H (.ref p) (.list ds)
inductive RepL (M:Addr->Prop) (K:af) (H:Hp):List V->List PyData->Prop
 | nil:RepL M K H [] []
 | cons {v:V} {vs:List V} {d:PyData} {ds:List PyData}:Rep M K H v d->RepL M K H vs ds->RepL M K H (v::vs) (d::ds)
end
noncomputable def Vw (M:Addr->Prop) (H H':Hp):Prop:=∀c o,H c=some o->¬M c->H' c=some o
theorem Vw.of_same (x:jo H H'):Vw M H H':=λc o h _=>x c o h
theorem Rep.reads_all {X:Cx}{s:Shared}(I:Inv X pins σ H s) (h:RepL M X.K H vs ds) :
  ∀{us:List ai},jG vs us->∃as,ReadsAll s.heap us ds as:=by
 refine RepL.rec (M:=M) (K:=X.K) (H:=H) (motive_1:=λv d _=>∀u,jE v u->∃as,Reads s.heap u d as) (motive_2:=λvs ds _=>∀{us:List ai},jG vs us->∃as,ReadsAll s.heap us ds as)
  ?_ ?_ ?_ ?_ ?_ ?_ ?_ ?_ h
 ·intro u r;cases r;exact ⟨_,Reads.none⟩
 ·intro b u r;cases r;exact ⟨_,Reads.bool b⟩
 ·intro i u r;obtain ⟨t,rfl⟩:=r;exact ⟨_,Reads.int i t⟩
 ·intro x u r;obtain ⟨t,rfl⟩:=r;exact ⟨_,Reads.str x t⟩
 ·intro p vs ds n g _ f u r
  cases r
  obtain ⟨j,a,⟨o,e,c,k,d⟩,_⟩:=I.tuple g
  obtain ⟨as,q⟩:=f a
  exact ⟨as,reads_tuple_at e c d (by simpa using q)⟩
 ·intro p vs ds n g _ f u r
  cases r
  obtain ⟨j,a,⟨o,k,e,c,_,d⟩,_⟩:=I.list g
  obtain ⟨as,q⟩:=f a
  exact ⟨_,reads_list_at e c d (by simpa using q)⟩
 ·intro us r;cases r;exact ⟨_,ReadsAll.nil⟩
 ·intro v vs d ds _ _ m l us r
  cases r with
  | cons y w =>
   obtain ⟨as,q⟩:=m _ y
   obtain ⟨bs,z⟩:=l w
   exact ⟨_,ReadsAll.cons q z⟩
theorem Rep.reads {X:Cx}{s:Shared}(I:Inv X pins σ H s) {d:PyData}(h:Rep M X.K H v d) (r:jE v u):∃as,Reads s.heap u d as:=by
 obtain ⟨as,q⟩:=Rep.reads_all I (RepL.cons h .nil) (Paired.cons r .nil)
 cases q with
 | cons a b=>exact ⟨_,a⟩
section
variable {X:Cx}
inductive rNeD (K:af) (x:V) (y:V) (H:Hp) (Q:VK):Prop
 | mk (M M':Addr->Prop) (d e:PyData) (_:Rep M K H x d) (_:Rep M' K H y e) (_:nI d=true) (_:nI e=true) (_:Q (.bl (!PyData.eqv d e)) H)
theorem WT (j:X.A.units+64<cLine):OpR X (cg .NotEq) (rNeD X.K):=by
 intro pins s σ H x y v u Q I c b h
 obtain ⟨M,k,d,e,h1,h2,s1,a,q⟩:=h
 obtain ⟨i,g⟩:=h1.reads I c
 obtain ⟨bs,f⟩:=h2.reads I b
 exact ne_dataH g f s1 a j ⟨.bl _,H,I,rfl,q⟩
end
end L2
end
section
namespace L2
noncomputable def tCut (t u:TS):TS:=λD σ H=>∃P:St->Hp->Prop,t { D with nx:=P } σ H/\∀a H',P a H'->u D a H'
theorem uG {st:Stmt}{ua:List Stmt}{t:TS}(h1:PS X st t) (h2:PSs X ua u):PSs X (st::ua) (tCut t u):=by
 intro pins s σ H D I h
 obtain ⟨P,h,b⟩:=h
 refine mP (thn (h1 pins s σ H { D with nx:=P } I h) λf s1 q=>?_)
 cases f with
 | next =>
  obtain ⟨a,H',c,q⟩:=q
  exact h2 pins s1 a H' D c (b _ _ q)
 | ret v=>exact q
 | brk=>exact q
 | cont=>exact q
section
variable {X:Cx}
end
theorem UI {X:Cx}(K:af) (j:X.A.units+64<cLine) (h:X.K=K:=by rfl):OpR X (cg .NotEq) (rNeD K):=by subst h;exact WT j
noncomputable def jK (L:Addr) (H:Hp) (b:Addr):Prop:=∃(ns:List Int) (a r c d:Int),H b=some (.lst [.ref L,.int a,.int r,.int c,.int d])/\L≠b/\H L=some (.lst ↥117)/\0<=a
theorem jK.same {b:Addr}(B:jK L H b) (s:jo H H'):jK L H' b:=by
 obtain ⟨ns,a,r,c,d,h1,h2,f,e⟩:=B
 exact ⟨ns,a,r,c,d,s _ _ h1,h2,s _ _ f,e⟩
theorem jK.ext {b acc:Addr}(B:jK L H b) (n:acc≠b) (m:acc≠L) (e:Ext acc H H'):jK L H' b:=by
 obtain ⟨ns,a,r,c,d,h1,h2,g,f⟩:=B
 exact ⟨ns,a,r,c,d,e _ _ h1 n.symm,h2,e _ _ g m.symm,f⟩
theorem jK.put {b acc:Addr}(B:jK L H b) (n:acc≠b) (m:acc≠L):jK L (upd H acc o) b:=B.ext n m Ext.put
theorem jK.ne {b p:Addr}(B:jK L H b) (n:H p=none):p≠b:=by
 obtain ⟨ns,a,r,c,d,h1,h2,f,e⟩:=B
 exact (j4 h1 n).symm
theorem jK.neL {b p:Addr}(B:jK L H b) (n:H p=none):p≠L:=by
 obtain ⟨ns,a,r,c,d,h1,h2,e,f⟩:=B
 exact (j4 e n).symm
theorem jK.ne_tup {b p:Addr}{xs:List V}(B:jK L H b) (n:H p=some (.tup xs)):p≠b:=by
 obtain ⟨ns,a,r,c,d,h1,h2,f,e⟩:=B
 exact jm n h1 ↥44
inductive spTakeL  (vs:List V) (H:Hp) (Q:VK) (z_3:XK):Prop
 | mk (L b:Addr) (n:Int) (_:vs=[.ref b,.int n]) (_:jK L H b) (_:(0<n/\n<2 ^ 200)) (_:∀(v:Int) (H':Hp),0<=v->v<n->jK L H' b->Ext b H H'->Q (.int v) H')
inductive spBoxL (K:af) (vs:List V) (H:Hp) (Q:VK) (z_3:XK):Prop
 | mk (a:Addr) (ns:List Int) (_:vs=[.ref a]) (_:SqL K H a ↥117) (_:∀(L b:Addr) (H':Hp),H b=none->jK L H' b->jo H H'->Q (.ref b) H')
noncomputable abbrev T3:=Int×Int×Int
noncomputable abbrev vJ (t:T3):HO:=.tup [.int t.1,.int t.2.1,.int t.2.2]
noncomputable def WQ (H:Hp) (v:V) (t:T3):Prop:=∃p,v = .ref p/\H p=some (vJ t)
noncomputable def qP (H:Hp) (vs:List V) (ts:List T3):Prop:=cW (WQ H) vs ts
theorem qP.length {ts:List T3}(r:qP H vs ts):vs.length=ts.length:=aP r
theorem qP.get :∀{vs:List V}{ts:List T3}{i:Nat}{v:V},qP H vs ts->vs[i]? = some v->∃t,ts[i]? = some t/\WQ H v t
 | _,_,_,_,.nil,e=>by simp at e
 | _,_,0,_,.cons r _,e=>by simp at e;subst e;exact ⟨_,rfl,r⟩
 | _,_,i+1,v,.cons _ t,e=>by
  obtain ⟨d,h1,h2⟩:=qP.get (i:=i) (v:=v) t (by simpa using e)
  exact ⟨d,by simpa using h1,h2⟩
theorem qP.imp {H':Hp}{ts:List T3}(r:qP H vs ts) (h:∀p t,H p=some (vJ t)->H' p=some (vJ t)):qP H' vs ts :=
 Paired.mapP r λ_ t ⟨p,e,q⟩=>⟨p,e,h p t q⟩
theorem qP.snoc {ts:List T3}{t:T3}(r:qP H vs ts) (h:WQ H v t):qP H (vs++[v]) (ts++[t]):=cE r h
theorem qG {α β:Type}(f:α->β) (l:List α) (i:Nat) (v:α) (h:l[i]? = some v):(l.take (i+1)).map f=(l.take i).map f++[f v]:=by
 rw [bJ,h,aD]
 rfl
end L2
end
section
namespace L2
open PySem PySem.W PyProof.Rows
noncomputable def xc {α:Type}(lt:Nat->Nat->Bool) (n:Nat):KasT α->(α->Prop)->Prop
 | .ret a,G=>G a
 | .ask i j k,G=>i<n/\j<n/\xc lt n (k (lt i j)) G
theorem xc.bind {α β:Type}{lt:Nat->Nat->Bool}{n:Nat}{f:α->KasT β}{G:β->Prop}:∀{t:KasT α},xc lt n t (λa=>xc lt n (f a) G)->xc lt n (t.bind f) G
 | .ret _,h=>h
 | .ask _ _ k,h=>⟨h.1,h.2.1,xc.bind (t:=k _) h.2.2⟩
theorem xc.wp {α:Type}{lt:Nat->Nat->Bool}{n:Nat}{U:Nat->Nat->(Bool->Shared->Prop)->Shared->Prop}{I:Shared->Prop}(hc:∀i j C s,i<n->j<n->I s->(∀s',I s'->C (lt i j) s')->U i j C s)
  {G:α->Prop} {Q:α->Shared->Prop} (Y:∀a s,G a->I s->Q a s):∀{t:KasT α} {s:Shared},xc lt n t G->I s->t.kasWp U Q s
 | .ret a,s,h,b=>Y a s h b
 | .ask i j k,s,h,b=>hc i j _ s h.1 h.2.1 b λs' c=>xc.wp hc Y (t:=k _) h.2.2 c
section
variable {O:KeyOrd}{key:Nat->O.α}{n:Nat}{p:Array Nat}
noncomputable abbrev ltK (O:KeyOrd) (key:Nat->O.α):Nat->Nat->Bool:=λi j=>O.blt (key i) (key j)
noncomputable abbrev kp (key:Nat->O.α) (p:Array Nat) (i:Nat):O.α:=key (p.getD i 0)
noncomputable def zI (key:Nat->O.α) (p:Array Nat) (k:Nat):Prop:=∀i j,i<=j->j<k->O.kle (kp key p i) (kp key p j)
noncomputable def kU (key:Nat->O.α) (p:Array Nat) (k:Nat):Prop:=∀i j,i<=j->j<k->O.kle (kp key p j) (kp key p i)
noncomputable def qr (n:Nat) (p:Array Nat):Prop:=p.Perm (aW n).toArray
theorem qr.size (h:qr n p):p.size=n:=by have:=h.size_eq;simpa using this
theorem qr.lt (h:qr n p) (j:0<n) (i:Nat):p.getD i 0<n:=by
 by_cases hi:i<p.size
 ·have e:p.getD i 0=p[i]:=by simp [lY,hi]
  rw [e]
  have a:p[i]∈(aW n).toArray.toList:=(Array.perm_iff_toList_perm.mp h).mem_iff.mp (by simp)
  simpa using a
 ·have e:p.getD i 0=0:=by simp [lY,hi]
  rw [e];exact j
theorem zD {p q:Array Nat}{i j:Nat}(h:p[i]? = q[j]?):p.getD i 0=q.getD j 0:=by
 rw [av,av,h]
theorem Jr {j d:Nat}(G:j<p.size) (I:d<=j) (k:Nat) :
  kp (O:=O) key (tE p j d) k=if k=j-d then kp key p j else if j-d<k/\k<=j then kp key p (k-1) else kp key p k:=by
 have e:=sN G d I k
 unfold kp
 by_cases h1:k=j-d
 ·rw [if_pos h1] at e ⊢;rw [zD e]
 ·rw [if_neg h1] at e ⊢
  by_cases h2:j-d<k/\k<=j
  ·rw [if_pos h2] at e ⊢;rw [zD e]
  ·rw [if_neg h2] at e ⊢;rw [zD e]
theorem ZC {i j:Nat}(G:j<=p.size) (k:Nat):kp (O:=O) key (iz p i j) k=if i<=k/\k<j then kp key p (i+j-1-k) else kp key p k:=by
 have e:=px (i:=i) G k
 unfold kp iz
 by_cases h1:i<=k/\k<j
 ·rw [if_pos h1] at e ⊢;rw [zD e]
 ·rw [if_neg h1] at e ⊢;rw [zD e]
theorem xJ {i j:Nat}(I:j<=p.size) (G:∀k,i<=k->k<j->kp (O:=O) key p k=kp key p (j-1)) (k:Nat):kp (O:=O) key (iz p i j) k=kp key p k:=by
 rw [ZC I]
 split
 ·rw [G _ ∅ ∅,G k ∅ ∅]
 ·rfl
theorem qr.rev (h:qr n p) (i j:Nat):qr n (iz p i j):=(mirror_perm _ _ _ _).trans h
theorem qr.bub (h:qr n p) (i j:Nat):qr n (tE p i j):=(bubble_perm _ _ _).trans h
theorem Qw (U:qr n p) (I:0<n) {G:Nat->Prop}:∀(f a:Nat),1<=a->zI (O:=O) key p a ->
  (∀m,a<=m->m<=a+f->zI (O:=O) key p m->(m=a+f\/O.klt (kp key p m) (kp key p (m-1)))->G m)->xc (ltK O key) n (kas_asc p f a) G
 | 0,a,_,c,h=>h a (ak _) (ak _) c (.inl rfl)
 | f+1,a,h1,c,h=>by
  refine ⟨U.lt I _,U.lt I _,?_⟩
  show xc _ _ (if O.blt (kp key p a) (kp key p (a-1))=true then _ else _) _
  cases b:O.blt (kp key p a) (kp key p (a-1)) with
  | true=>rw [if_pos rfl];exact h a (ak _) ∅ c (.inr b)
  | false =>
   rw [if_neg aq]
   refine Qw U I f (a+1) ∅ (λi j k s=>?_) λm r q d o=>h m ∅ ∅ d (o.imp (λz=>∅) id)
   by_cases e:j<a
   ·exact c i j k e
   ·have g:j=a:=∅
    subst g
    by_cases l:i=j
    ·subst l;exact dI _
    ·exact fX (c i (j-1) ∅ ∅) b
theorem Jw (Y:qr n p) {m I:Nat}{G:Nat×Array Nat->Prop}(h1:1<=m) (hm:m<=I) (hn:I<=n) (hs:kU (O:=O) key p m)
  (h:∀k U,qr n U->1<=k->k<=I->zI (O:=O) key U k->G (k,U)):xc (ltK O key) n (A3 m I p) G:=by
 have a:m<=p.size:=by rw [Y.size];omega
 refine xc.bind (Qw (Y.rev _ _) ∅ _ m h1 (λi j e f=>?_) λk d c b _=>h k _ (Y.rev _ _) ∅ ∅ b)
 rw [ZC a,ZC a,if_pos ∅,if_pos ∅]
 exact hs _ _ ∅ ∅
theorem uB {Y:Nat}(hn:Y<=n) {G:Array Nat×Nat×Nat->Prop}:∀(f:Nat) (p:Array Nat) (x q:Nat),qr n p->1<=x->x+f=Y->kU (O:=O) key p x->q+1<=x ->
  (∀i,x-(q+1)<=i->i<x->kp (O:=O) key p i=kp key p (x-1)) ->
  (∀I m U,qr n I->x<=m->m<=Y->kU (O:=O) key I m->U+1<=m->(∀i,m-(U+1)<=i->i<m->kp (O:=O) key I i=kp key I (m-1))->G (I,m,U)) ->
  xc (ltK O key) n (kas_desc f p x q) G
 | 0,p,x,q,c,h1,C,d,y,w,h=>h p x q c (ak _) ∅ d y w
 | f+1,p,x,q,c,h1,C,d,y,w,h=>by
  have z:x<=p.size:=by rw [c.size];omega
  refine ⟨c.lt ∅ _,c.lt ∅ _,?_⟩
  show xc _ _ (if O.blt (kp key p x) (kp key p (x-1))=true then _ else _) _
  cases g:O.blt (kp key p x) (kp key p (x-1)) with
  | true =>
   rw [if_pos rfl]
   have e:∀I:Array Nat,(∀k,kp (O:=O) key I k=kp key p k)->kU (O:=O) key I (x+1):=by
    intro I A i j t D
    rw [A,A]
    by_cases r:j<x
    ·exact d i j t r
    ·have s:j=x:=∅
     subst s
     by_cases u:i=j
     ·subst u;exact dI _
     ·exact fX (fN g) (d i (j-1) ∅ ∅)
   by_cases o:q > 0
   ·rw [if_pos o]
    exact uB hn f _ (x+1) 0 (c.rev _ _) ∅ ∅ (e _ (xJ z w)) ∅ (λi h1 h2=>by congr 1;omega) λI m U a b=>h I m U a ∅
   ·rw [if_neg o]
    exact uB hn f _ (x+1) 0 c ∅ ∅ (e _ λ_=>rfl) ∅ (λi h1 h2=>by congr 1;omega) λI m U a b=>h I m U a ∅
  | false =>
   rw [if_neg aq]
   refine ⟨c.lt ∅ _,c.lt ∅ _,?_⟩
   show xc _ _ (if O.blt (kp key p (x-1)) (kp key p x)=true then _ else _) _
   cases l:O.blt (kp key p (x-1)) (kp key p x) with
   | true=>rw [if_pos rfl];exact h p x q c (ak _) ∅ d y w
   | false =>
    rw [if_neg aq]
    have v:kp (O:=O) key p x=kp key p (x-1):=lI l g
    refine uB hn f p (x+1) (q+1) c ∅ ∅ (λi j t D=>?_) ∅ (λi h1 h2=>?_) λI m U a b=>h I m U a ∅
    ·by_cases r:j<x
     ·exact d i j t r
     ·have s:j=x:=∅
      subst s
      by_cases u:i=j
      ·subst u;exact dI _
      ·rw [v];exact d i (j-1) ∅ ∅
    ·rw [show x+1-1=x by omega]
     by_cases B:i=x
     ·subst B;rfl
     ·rw [v];exact w i ∅ ∅
theorem uX (hP:qr n p) {m I:Nat}{G:Nat×Array Nat->Prop}(hm:m+1<=I) (Y:I<=n) (hs:kU (O:=O) key p (m+1))
  (h:∀k U,qr n U->1<=k->k<=I->zI (O:=O) key U k->G (k,U)):xc (ltK O key) n (kas_descPart m I p) G:=by
 refine xc.bind (uB Y _ p (m+1) 0 hP ∅ ∅ hs ∅ (λi h1 h2=>by congr 1;omega) λU k q b o e d r g=>?_)
 have c:k<=U.size:=by rw [b.size];omega
 show xc _ _ (if q > 0 then A3 k I (iz U (k-(q+1)) k) else A3 k I U) _
 by_cases a:q > 0
 ·rw [if_pos a]
  refine Jw (b.rev _ _) ∅ e Y (λi j f l=>?_) h
  rw [xJ c g,xJ c g]
  exact d i j f l
 ·rw [if_neg a]
  exact Jw b ∅ e Y d h
theorem Yn (I:qr n p) (Y:0<n) {G:Nat×Array Nat->Prop}(h:∀k U,qr n U->1<=k->k<=n->zI (O:=O) key U k->G (k,U)):xc (ltK O key) n (kas_count n p) G:=by
 refine xc.bind (Qw I Y _ 1 (ak 1) (λi j o w=>by have:i=j:=∅;subst this;exact dI _) λm g C b s=>?_)
 by_cases f:m=n
 ·rw [if_pos (by simpa using f)]
  exact h m p I g ∅ b
 ·rw [if_neg (by simpa using f)]
  have l:O.klt (kp key p m) (kp key p (m-1)):=by
   rcases s with z | z
   ·omega
   ·exact z
  by_cases q:m > 1
  ·rw [if_pos q]
   refine ⟨I.lt Y _,I.lt Y _,?_⟩
   show xc _ _ (if O.blt (kp key p 0) (kp key p (m-1))=true then _ else _) _
   cases d:O.blt (kp key p 0) (kp key p (m-1)) with
   | true=>rw [if_pos rfl];exact h m p I g ∅ b
   | false =>
    rw [if_neg aq]
    have e:m<=p.size:=by rw [I.size];omega
    have a:∀k,0<=k->k<m->kp (O:=O) key p k=kp key p (m-1):=by
     intro k _ y
     have B:=b 0 k ∅ y
     have A:=b k (m-1) ∅ ∅
     exact lI A (fX d B)
    refine uX (I.rev _ _) ∅ (ak _) (λi j o w=>?_) h
    rw [xJ e a,xJ e a]
    by_cases t:j<m
    ·rw [a i ∅ ∅,a j ∅ t];exact dI _
    ·have v:j=m:=∅
     subst v
     by_cases c:i=j
     ·subst c;exact dI _
     ·rw [a i ∅ ∅];exact fN l
  ·rw [if_neg q]
   have r:m=1:=∅
   subst r
   refine uX I ∅ (ak _) (λi j o w=>?_) h
   by_cases c:i=j
   ·subst c;exact dI _
   ·have x:i=0:=∅
    have u:j=1:=∅
    subst x;subst u
    exact fN l
theorem uZ (U:qr n p) (I:0<n) {k:Nat}(j:zI (O:=O) key p k) {G:Nat->Prop}:∀(f l r:Nat),l<=r->r<=k->r-l<=f ->
  (∀i,i<l->O.kle (kp key p i) (kp key p k))->(∀i,r<=i->i<k->O.klt (kp key p k) (kp key p i)) ->
  (∀l,l<=k->(∀i,i<l->O.kle (kp key p i) (kp key p k))->(∀i,l<=i->i<k->O.klt (kp key p k) (kp key p i))->G l)->xc (ltK O key) n (kas_place p k f l r) G
 | 0,l,r,g,d,m,a,c,h=>by
  have:l=r:=∅
  subst this
  exact h l d a c
 | f+1,l,r,g,d,m,a,c,h=>by
  unfold kas_place
  by_cases e:l>=r
  ·rw [if_pos e]
   have:l=r:=∅
   subst this
   exact h l d a c
  ·rw [if_neg e]
   refine ⟨U.lt I _,U.lt I _,?_⟩
   show xc _ _ (if O.blt (kp key p k) (kp key p ((l+r) / 2))=true then _ else _) _
   cases b:O.blt (kp key p k) (kp key p ((l+r) / 2)) with
   | true =>
    rw [if_pos rfl]
    exact uZ U I j f l _ ∅ ∅ ∅ a (λi h1 h2=>KeyOrd.klt_of_klt_of_kle b (j _ _ h1 h2)) h
   | false =>
    rw [if_neg aq]
    exact uZ U I j f _ r ∅ ∅ ∅ (λi h1=>fX (j i ((l+r) / 2) ∅ ∅) (show O.kle _ _ from b)) c h
theorem ZZ (U:0<n) {G:Array Nat->Prop}:∀(f:Nat) (p:Array Nat) (k:Nat),qr n p->k+f=n->zI (O:=O) key p k ->
  (∀I,qr n I->zI (O:=O) key I n->G I)->xc (ltK O key) n (kas_bin f p k) G
 | 0,p,k,a,e,b,h=>h p a (by rw [<- e];exact b)
 | f+1,p,k,a,e,b,h=>by
  refine xc.bind (uZ a U b k 0 k (aB _) (ak _) ∅ (λi hi=>∅) (λi h1 h2=>∅) λl m d g=>?_)
  refine ZZ U f _ (k+1) (a.bub _ _) ∅ (λi j o q=>?_) h
  have c:k<p.size:=by rw [a.size];omega
  rw [Jr c ∅,Jr c ∅,show k-(k-l)=l by omega]
  repeat' split
  all_goals first
   | (exfalso;omega)
   | exact dI _
   | exact d _ ∅
   | exact fN (g _ ∅ ∅)
   | exact b _ _ ∅ ∅
theorem kY (I:0<n) {G:Array Nat->Prop}(h:∀j,qr n j->zI (O:=O) key j n->G j):xc (ltK O key) n (Af n) G:=by
 refine xc.bind (Yn (Array.Perm.refl _) I λk j c h1 d b=>?_)
 show xc _ _ (if k<n then kas_bin (n-max k 1) j (max k 1) else .ret j) _
 by_cases a:k<n
 ·rw [if_pos a,show max k 1=k by omega]
  exact ZZ I _ j k c ∅ b h
 ·rw [if_neg a]
  have e:k=n:=∅
  subst e
  exact h j c b
end
noncomputable def zB:List Int->List Int->Bool
 | [],[]=>false
 | [],_::_=>true
 | _::_,[]=>false
 | a::x,b::y=>if a=b then zB x y else decide (a<b)
theorem wO:∀a,zB a a=false
 | []=>rfl
 | a::x=>by unfold zB;rw [if_pos rfl];exact wO x
theorem gH:∀a b c,zB a b=true->zB b c=true->zB a c=true
 | [],[],_,h,_=>by cases h
 | [],_::_,[],_,h=>by cases h
 | [],_::_,_::_,_,_=>rfl
 | _::_,[],_,h,_=>by cases h
 | _::_,_::_,[],_,h=>by cases h
 | a::x,b::y,c::z,h1,h2=>by
  unfold zB at h1 h2 ⊢
  by_cases e:a=b
  ·subst e
   rw [if_pos rfl] at h1
   by_cases d:a=c
   ·rw [if_pos d] at h2 ⊢;exact gH x y z h1 h2
   ·rw [if_neg d] at h2 ⊢;exact h2
  ·rw [if_neg e] at h1
   have g:=of_decide_eq_true h1
   by_cases d:b=c
   ·subst d;rw [if_neg e];exact h1
   ·rw [if_neg d] at h2
    have f:=of_decide_eq_true h2
    rw [if_neg ∅]
    exact decide_eq_true ∅
theorem QL:∀a b c,zB a c=true->zB a b=true\/zB b c=true
 | [],[],[],h=>by cases h
 | [],[],_::_,_=>.inr rfl
 | [],_::_,_,_=>.inl rfl
 | _::_,_,[],h=>by cases h
 | _::_,[],_::_,_=>.inr rfl
 | a::x,b::y,c::z,h=>by
  unfold zB at h ⊢
  by_cases f:a=b
  ·subst f
   rw [if_pos rfl]
   by_cases e:a=c
   ·rw [if_pos e] at h ⊢;exact QL x y z h
   ·rw [if_neg e] at h ⊢;exact .inr h
  ·rw [if_neg f]
   by_cases e:b=c
   ·subst e;rw [if_neg f] at h;exact .inl h
   ·rw [if_neg e]
    by_cases g:a=c
    ·subst g
     by_cases d:a<b
     ·exact .inl (decide_eq_true d)
     ·exact .inr (decide_eq_true ∅)
    ·rw [if_neg g] at h
     have h':=of_decide_eq_true h
     by_cases d:a<b
     ·exact .inl (decide_eq_true d)
     ·exact .inr (decide_eq_true ∅)
theorem gS:∀a b,zB a b=false->zB b a=false->a=b
 | [],[],_,_=>rfl
 | [],_::_,h,_=>by cases h
 | _::_,[],_,h=>by cases h
 | a::x,b::y,h1,h2=>by
  unfold zB at h1 h2
  by_cases e:a=b
  ·subst e
   rw [if_pos rfl] at h1 h2
   rw [gS x y h1 h2]
  ·rw [if_neg e] at h1
   rw [if_neg (λz=>e z.symm)] at h2
   have:=of_decide_eq_false h1
   have:=of_decide_eq_false h2
   omega
noncomputable def y4:KeyOrd:=⟨List Int,zB,wO,gH,QL,gS⟩
noncomputable def UA:KeyOrd:=⟨Int,λa b=>decide (a<b),λa=>by simp,λa b c h1 h2=>by
  have:=of_decide_eq_true h1;have:=of_decide_eq_true h2;exact decide_eq_true ∅,λa b c h=>by
  have:=of_decide_eq_true h
  by_cases d:a<b
  ·exact .inl (decide_eq_true d)
  ·exact .inr (decide_eq_true ∅),λa b h1 h2=>by
  have:=of_decide_eq_false h1;have:=of_decide_eq_false h2;omega⟩
end L2
end
section
namespace L2
open PySem.W
open PySem.AutoSeq1 (wpAny_loadPart')
open PySem.MeetsSeq PySem.MeetsSeq2 PySem.MeetsSeq3 PySem.SeqRoads2
theorem JY (h:dv its xs) {i:Nat}(hi:i<its.length):∃t,its[i]? = some (.int (xs[i]'(by have:=h.length;omega)) t):=by
 have a:i<xs.length:=by have:=h.length;omega
 obtain ⟨u,c,t,b⟩:=jG.get (wn h) (i:=i) (x:=V.int xs[i]) (by rw [aH,ae a];rfl)
 exact ⟨t,by rw [c,b]⟩
theorem YI (l b:Addr) (items j:List ai) (n n2:Nat) (dd Y:Option Addr) (sl G:Array (Option ai)) (U:dv items xs) (I:dv j ys) (k:Nat) :
  ∀i:Nat,items.length-i=k->i<=items.length->i<=j.length->Meets (Builtin.«list.__eq__.loop» ⟨[.ref l,.ref b,cv i,cv 0],[]⟩)
   (λA R s=>s.heap.get? l=some { cls:=.type "list",dict:=dd,data:=.seq items.toArray n,slots:=sl }/\s.heap.get? b=some { cls:=.type "list",dict:=Y,data:=.seq j.toArray n2,slots:=G } /\
    R (.ok (.ret (.bool (zB (xs.drop i) (ys.drop i))))) s):=by
 have E:=U.length
 have D:=I.length
 induction k with
 | zero =>
  intro i z hi q prog w A R s h
  obtain ⟨y,g,d,tk,os⟩:=s;obtain ⟨a,c,h⟩:=h
  wp_walk using cu a,cu c
  have o:items.toArray[((i:Nat):Int).toNat]? = none:=by simp;omega
  have B:xs.drop i=[]:=by simp;omega
  rw [B] at h
  rw [o]
  wp_walk using cu a,cu c
  show R (.ok (.ret (.bool (decide (items.toArray.size<j.toArray.size))))) _
  have f:decide (items.toArray.size<j.toArray.size)=zB [] (ys.drop i):=by
   by_cases m:i<ys.length
   ·rw [cj m]
    exact decide_eq_true ↥94
   ·rw [fj ∅]
    exact decide_eq_false ↥94
  rw [f]
  exact h
 | succ k x =>
  intro i z hi q prog w A R s h
  obtain ⟨y,g,d,tk,os⟩:=s;obtain ⟨a,c,h⟩:=h
  have m:i<items.length:=∅
  obtain ⟨t,v⟩:=JY U m
  have o:items.toArray[((i:Nat):Int).toNat]? = some (.int (xs[i]'∅) t):=by simpa using v
  wp_walk using cu a,cu c
  rw [o]
  by_cases p:i<j.length
  ·obtain ⟨u,r⟩:=JY I p
   have f:j.toArray[((i:Nat):Int).toNat]? = some (.int (ys[i]'∅) u):=by simpa using r
   rw [f]
   rw [cj (show i<xs.length by omega),cj (show i<ys.length by omega)] at h
   unfold zB at h
   refine aa (mM ?_)
   have C:((i:Int)+1)=((i+1:Nat):Int):=by push_cast;rfl
   by_cases e:xs[i]'∅=ys[i]'∅
   ·rw [if_pos e] at h
    rw [beq_iff_eq.mpr e]
    wp_walk
    rw [C]
    exact ⟨mH plain_eq_loop _,lx entry_eq_loop (by
     rw [fR plain_eq_loop _]
     exact x (i+1) ∅ ∅ ∅ prog w A R _ ⟨a,c,h⟩)⟩
   ·rw [if_neg e] at h
    rw [beq_eq_false_iff_ne.mpr e]
    wp_walk using cu a,cu c
    rw [o,f]
    refine aa (show ax (ay prog w) _ (richCompare .Lt _ _) _ _ _ from lt_int ?_)
    exact wpAny_pure h
  ·have f:j.toArray[((i:Nat):Int).toNat]? = none:=by simp;omega
   rw [f]
   rw [cj (show i<xs.length by omega),fj (show ys.length<=i by omega)] at h
   wp_walk using cu a,cu c
   show R (.ok (.ret (.bool (decide (items.toArray.size<j.toArray.size))))) _
   rw [decide_eq_false ↥94]
   exact h
theorem Y9 (l b:Addr) (items j:List ai) (n Y:Nat) (dd I:Option Addr) (U G:Array (Option ai)) (hx:dv items xs) (hy:dv j ys) :
  Meets (Builtin.«list.__lt__» ⟨[.ref l,.ref b],[]⟩)
   (λA R s=>s.heap.get? l=some { cls:=.type "list",dict:=dd,data:=.seq items.toArray n,slots:=U }/\s.heap.get? b=some { cls:=.type "list",dict:=I,data:=.seq j.toArray Y,slots:=G } /\
    R (.ok (.ret (.bool (zB xs ys)))) s):=by
 intro prog w A R s h
 obtain ⟨e,g,d,tk,os⟩:=s;obtain ⟨a,c,h⟩:=h
 have f:=AutoSeq1.sub_list_list
 wp_walk using cu a,cu c
 exact ⟨mH plain_eq_loop _,lx entry_eq_loop (by
  rw [fR plain_eq_loop _]
  exact YI l b items j n Y dd I U G hx hy _ 0 rfl (aB _) (aB _) prog w A R _ ⟨a,c,by simpa using h⟩)⟩
section
variable {prog:Program}{w:bx}{A:bC}{E:ai->Shared->Prop}{s:Shared}
theorem XU {l b:Addr}{items j:List ai}{n n2:Nat}{dd I:Option Addr}{Y G:Array (Option ai)}{Q:Bool->Shared->Prop}(hu:A.units<cLine)
  (U:s.heap.get? l=some { cls:=.type "list",dict:=dd,data:=.seq items.toArray n,slots:=Y }) (hb:s.heap.get? b=some { cls:=.type "list",dict:=I,data:=.seq j.toArray n2,slots:=G })
  (hx:dv items xs) (hy:dv j ys) (h:Q (zB xs ys) s):ax (ay prog w) A (oneLt' true (.ref l) (.ref b)) Q E s:=by
 rw [oneLt'_eq]
 simp only [if_true]
 refine aa (wpAny_cRoomFor hu ?_)
 refine aa (wpAny_callSpecialIfBound?_slot ⟨_,U,rfl⟩ oM (nE oM ⟨_,U,rfl⟩ PySem.F.entry_list_lt (PySem.F.args_list_lt_2 _ _) (Y9 l b items j n n2 dd I Y G hx hy) ⟨U,hb,?_⟩))
 exact cw h
theorem gX {x y:Addr}{items items2:List ai}{n k:Nat}{Q:Bool->Shared->Prop}(hx:s.heap.get? x=some G) (dx:G.data = .seq items.toArray n) (Y:s.heap.get? y=some j) (dy:j.data = .seq items2.toArray k)
  (U:dv items xs) (I:dv items2 ys) (h:Q (zB xs ys) s):ax (ay prog w) A (tF (tuples' true) (.ref x) (.ref y)) Q E s:=by
 refine kat_lt hx dx Y dy ?_
 have go:∀(items items2:List ai) (xs ys:List Int) (i:Nat) (fin:Bool),dv items xs->dv items2 ys->(∀m:Nat,xs.length=m+items.length-items.length->True) ->
   fin=decide (items.length<items2.length)->Q (zB xs ys) s->KatLex prog w A true fin Q (items.zip items2) i s:=by
  intro items items2 xs ys i fin a b
  induction a generalizing items2 ys i with
  | nil =>
   intro _ d c
   cases b with
   | nil=>subst d;exact c
   | cons m u r=>subst d;exact c
  | cons m u r l =>
   intro _ d c
   cases b with
   | nil=>subst d;exact c
   | cons g o f =>
    refine kat_cons (mM ?_)
    unfold zB at c
    by_cases e:m=g
    ·rw [beq_iff_eq.mpr e]
     rw [if_pos e] at c
     refine kat_yes (l _ _ _ f (λ_ _=>trivial) ?_ c)
     rw [d]
     simp
    ·rw [beq_eq_false_iff_ne.mpr e]
     rw [if_neg e] at c
     refine kat_no ?_
     cases p:(true && i == 0) with
     | true=>exact oneLt_int c
     | false=>exact kat_one _ _ (lt_int c)
 have e:(items.toArray.toList.zip items2.toArray.toList)=items.zip items2:=by simp
 rw [e]
 exact go items items2 xs ys 0 _ U I (λ_ _=>trivial) (by simp) h
end
end L2
end
section
namespace L2
open PySem.W
section
variable {prog:Program}{w:bx}{A:bC}{E:ai->Shared->Prop}{s:Shared}
theorem yL (its:List ai): (↥41).map (·.2)=its.toArray:=by
 apply Array.toList_inj.mp
 rw [eR,ksk_zip]
 show (its.zip its).map Ad=its
 rw [sr]
 exact ak _
theorem yE (its:List ai):((↥95).map λi=>its.getD i aV)=its:=by
 apply mV
 ·simp
 ·intro i h1 h2
  simp at h1
  simp [h1]
theorem Z4 {l:Addr}{its:List ai}{κ:di}{lt:Nat->Nat->Bool}{G:List Nat->Prop}{Q:ai->Shared->Prop}(hl:s.heap.IsList l its.toArray) (h64:its.length<64)
  (hk:2<=its.length->∀h',↥13->∀Q':di->Shared->Prop,Q' κ { s with heap:=h' }->ax (ay prog w) A.in1.in1 (Ag its.toArray) Q' (λ_ _=>False) { s with heap:=h' })
  (hc:∀h',↥13->∀i j,i<its.length->j<its.length->∀Q':Bool->Shared->Prop,Q' (lt i j) { s with heap:=h' } ->
   ax (ay prog w) A.in1.in1 ↥114 Q' (λ_ _=>False) { s with heap:=h' })
  (hs:2<=its.length->xc lt its.length (Af its.length) λp=>qr its.length p/\G p.toList) (h1:its.length<2->G ↥95)
  (h:∀(ix:List Nat) (h':Heap) (n:Nat),ix.Perm ↥95->G ix->↥13 ->
   h'.get? ↥12=some (b7 "list" (↥40).toArray n)->Q (.ref ↥12) { s with heap:=h' }) :
  ax (ay prog w) A (call ↥128 [.ref l]) Q E s:=by
 refine fZ oN nJ nK (rK _) ?_
 unfold Builtin.«sorted»
 refine aa (m:=pT "sorted" 1 1 _) ↥46
 refine aa (rM hl ?_ (by rw [bE];omega))
 refine aa (eJ ?_ (by rw [bE];omega))
 have hsz: (↥1).objs.size=s.heap.objs.size+1:=by
  rw [cS,lZ]
 have ho:((↥1).push ↥17).get? ↥12=some ↥17:=by
  rw [<- hsz];exact aE _ rfl
 have keep:∀b o,s.heap.get? b=some o->((↥1).push ↥17).get? b=some o:=λb o q=>by
  have hlt:b<s.heap.objs.size:=aw q
  rw [bX _ _ _ (by rw [hsz];exact aF (bW hlt)),bN _ _ _ _ (aF hlt),bX _ _ _ (aF hlt)]
  exact q
 show ax _ _ _ _ _ { s with heap:=(↥1).push ↥17 }
 rw [hsz]
 refine aa (bZ (dj m6 ⟨_,ho,rfl⟩ ly ?body (oO _)))
 case body =>
  generalize hh0: (↥1).push ↥17=h0 at ho keep
  generalize ha:s.heap.objs.size+1=a at ho h
  have aNew:∀b o,s.heap.get? b=some o->b≠a:=λb o q=>by have:=aw q;rw [<- ha];exact aF (bW this)
  show ax (ay prog w) A.in1.in1 (Builtin.«list.sort» ⟨[.ref a],[]⟩) _ _ { s with heap:=h0 }
  rw [og]
  have hal:a<h0.objs.size:=aw ho
  refine aa (lN ho rfl ?_)
  refine aa ↥103
  obtain ⟨e1,ho1⟩:∃e1,(h0.update a ↥71).get? a=some ↥118:=⟨_,dJ ho (λ_=>#[])⟩
  refine aa (dQ ho1 rfl ?_)
  refine aa ↥96
  refine aa (eJ ?_ (aB _))
  refine bZ ?_
  have ho6:((↥2).push ↥68).get? a=some ↥118:=by
   rw [bX _ _ _ (by rw [lZ,cS];exact aF (bW hal)),bX _ _ _ (by rw [cS];exact aF hal)]
   exact ho1
  have keep6:∀b o,s.heap.get? b=some o->((↥2).push ↥68).get? b=some o:=λb o q =>
   ah _ (ah _ ↥89)
  show ax (ay prog w) A.in1.in1 _ _ _ { s with heap:=(↥2).push ↥68 }
  generalize (↥2).push ↥68=h6 at ho6 keep6
  dsimp only
  have fin:∀(ix:List Nat),ix.Perm ↥95->G ix->∀out:Array ai,out=(↥40).toArray ->
    ∃v,oP (Ah aV) = .done (.ret v)/\ax (ay prog w) A.in1 (do let _ <- pure v;ret (b8 a)) ↥32 E { s with heap:=h6.update a (aS λ_=>out) }:=λix hp hg out ho'=>by
   refine ⟨_,rfl,aa ↥111⟩
   subst ho'
   exact h ix _ _ hp hg ↥113 (dJ ho6 λ_=>_)
  by_cases h2:its.toArray.size<2
  ·rw [if_pos h2,if_pos h2]
   refine aa ↥46
   rw [lA]
   refine aa ↥46
   dsimp only
   refine aa (dQ ho6 rfl ?_)
   rw [yL]
   refine aa (cH ho6 rfl ?_ (aB _) (by rw [au,bE];omega))
   simp only [bne_self_eq_false,cF,if_false]
   rw [au] at h2
   exact wpAny_pure (fin _ (iB _) (h1 h2) _ (by rw [yE]))
  ·rw [if_neg h2,if_neg h2]
   rw [au] at h2
   refine aa ↥42
   obtain ⟨rfl,rfl⟩:=q
   refine aa (bf (kat_run (ks:=its) (vs:=its) (κ:=κ') (G:=λp s'=>(qr its.length p/\G p.toList)/\s'={ s with heap:=h6 }) (Q:=λst' s'=>∃p:Array Nat,fO st'=p.map (aI ↥41)/\eS st'=none/\(qr its.length p/\G p.toList)/\s'={ s with heap:=h6 })
    rfl ∅ h64 (λp st' s' a1 a2 a3 a4=>⟨p,a2,a3,a4⟩) (xc.wp (I:=λs'=>s'={ s with heap:=h6 }) (λi j C s' hi hj hI hC=>?_) (λp s' hp hI=>⟨hp,hI⟩) (hs ∅) rfl)) ?_ λ_ _ e=>e)
   ·subst hI
    exact hc h6 keep6 i j hi hj C (hC _ rfl)
   ·rintro ⟨⟨⟩,st'⟩ s' ⟨p,har,hf,⟨hP,hG⟩,rfl⟩
    dsimp only
    have hout:=tG (ks:=its) (vs:=its) rfl har
    have hz:(nM (p.toList.map λi=>its.getD i aV)).size=its.length:=by rw [au,ag,aG,hP.size]
    rw [hout]
    refine aa (dQ ho6 rfl ?_)
    refine aa (cH ho6 rfl ?_ (aB _) (by rw [hz,bE];omega))
    rw [hf]
    simp only [bne_self_eq_false,cF,if_false]
    exact wpAny_pure (fin p.toList ↥63 hG _ rfl)
end
end L2
end
section
namespace L2
open PySem.W
noncomputable def yj (O:KeyOrd) (key:Nat->O.α) (vs out:List V):Prop:=∃a:List Nat,a.Perm (aW vs.length)/\out=(a.map λi=>vs.getD i V.non)/\(a.map key).Pairwise O.kle
theorem zI.pairwise {O:KeyOrd}{key:Nat->O.α}{p:Array Nat}{n:Nat}(G:zI (O:=O) key p n) (I:p.size=n):(p.toList.map key).Pairwise O.kle:=by
 rw [mf]
 intro i j hi a b
 simp at hi a
 have q:=G i j (ff b) ∅
 unfold kp at q
 have d:p.getD i 0=p[i]:=by simp [lY,hi]
 have c:p.getD j 0=p[j]:=by simp [lY,a]
 rw [d,c] at q
 simpa using q
theorem JA:∀{vs:List V}{us:List ai},jG vs us->∀i,jE (vs.getD i V.non) (us.getD i aV)
 | _,_,.nil,_=>rfl
 | _,_,.cons r _,0=>r
 | _,_,.cons _ t,i+1=>JA t i
theorem vz {vs:List V}{us:List ai}(r:jG vs us):∀j:List Nat,jG (j.map λi=>vs.getD i V.non) (j.map λi=>us.getD i aV)
 | []=>.nil
 | i::j=>.cons (JA r i) (vz r j)
theorem U0 {a b:Int}(h:UA.kle a b):a<=b:=Int.not_lt.mp (of_decide_eq_false h)
noncomputable def yQ (H:Hp) (vs:List V) (j:List (List Int)):Prop:=cW (λv (r:List Int)=>∃a,v=V.ref a/\H a=some (.lst (r.map V.int))) vs j
theorem Paired.get {α β:Type}{F:α->β->Prop}:∀{l₁:List α}{j:List β}{i:Nat}{x:α},cW F l₁ j->l₁[i]? = some x->∃y,j[i]? = some y/\F x y
 | _,_,_,_,.nil,e=>by simp at e
 | _,_,0,_,.cons r _,e=>by simp at e;subst e;exact ⟨_,rfl,r⟩
 | _,_,i+1,v,.cons _ t,e=>by
  obtain ⟨d,h1,h2⟩:=Paired.get (i:=i) (x:=v) t (by simpa using e)
  exact ⟨d,by simpa using h1,h2⟩
theorem xG:∀{ns:List Int}{us:List ai},jG ↥117 us->dv us ns
 | [],_,.nil=>.nil
 | n::ns,_,.cons ⟨t,e⟩ r=>by subst e;exact .cons n t (xG r)
section
variable {X:Cx}
theorem Jb (K:af) (hu:X.A.units+64<cLine) (hK:X.K=K:=by rfl):xf X ↥128 (λxs H Q=>∃p vs U,xs=[.ref p]/\SqL K H p vs/\vs.length<64/\yQ H vs U /\
  ∀l H' out,H l=none->H' l=some (.lst out)->jo H H'->yj y4 (λi=>U.getD i []) vs out->Q (.ref l) H'):=by
 subst hK
 intro pins s σ H xs us Q I r h
 obtain ⟨p,vs,U,rfl,P,ab,O,k⟩:=h
 obtain ⟨u,rfl,t⟩:=vq r
 cases t
 obtain ⟨d,x,pl,hz⟩:=I.list P
 have B:d.length=vs.length:=x.length.symm
 have item:∀i,i<d.length->∃a c n,d.getD i aV = .ref a/\s.heap.get? a=some { cls:=.type "list",data:=.seq c.toArray n }/\dv c (U.getD i []):=λi hi=>by
  have f:vs[i]? = some (vs[i]'∅):=ae ∅
  obtain ⟨y,o,a,m,e4⟩:=Paired.get O f
  obtain ⟨u,e5,t⟩:=x.get f
  rw [m] at t
  cases t
  obtain ⟨z,c,n,C,e6⟩:=I.hok a _ e4
  refine ⟨a,c,n,by rw [ao,e5];rfl,e6,?_⟩
  rw [ao,o]
  exact xG C
 have D:X.A.in1.in1.units<cLine:=by
  show X.A.units+1+1<cLine
  omega
 refine Z4 (κ:=oneType') (lt:=ltK y4 λi=>U.getD i []) (G:=λg=>(g.map λi=>U.getD i []).Pairwise y4.kle) pl.isList ∅ (λh2 h' e Q' q=>?_) (λh' e i j hi S Q' q=>?_) (λh2=>?_) (λh1=>?_) λg h' n E Y e R=>?_
 ·refine kas_kind (T:=.type "list") h2 (λv N=>?_) rfl rfl q
  obtain ⟨i,hi,rfl⟩:=List.mem_iff_getElem.mp N
  obtain ⟨a,c,n,f,o,_⟩:=item i hi
  have m:d[i] = .ref a:=by rw [<- f];simp [hi]
  rw [m]
  exact (show Looks _ h' (A6 (.ref a)) _ from (Looks.ld (e _ _ o)).andThen .now)
 ·obtain ⟨a,c,n,f,o,m⟩:=item i hi
  obtain ⟨b,M,n2,f1,f2,f3⟩:=item j S
  rw [f,f1,keyLt'_oneType]
  exact XU D (e _ _ o) (e _ _ f2) m f3 q
 ·exact kY ∅ λp' L Z=>⟨L,Z.pairwise L.size⟩
 ·have w:d.length=0\/d.length=1:=∅
  rcases w with z | z
  ·rw [z];exact fM
  ·rw [z];exact dw _ _
 ·have J:H ↥12=none:=I.hok.fresh (fc _)
  refine ⟨.ref _,upd H ↥12 (.lst (g.map λi=>vs.getD i V.non)),I.laid (t':=s.toks) e (fc _) ⟨?_,_,n,vz x g,R⟩,rfl,k _ _ _ J j9 (jo.new J) ⟨g,by rw [<- B];exact E,rfl,Y⟩⟩
  rw [ag,E.length_eq,bQ]
  exact aN (by omega:d.length<=1000) ⋯
end
end L2
end
section
namespace L2
open PySem.W
noncomputable abbrev uR (j:Str) (params:Arguments) (body:Expr) (scope:Scope) (pm:ai) (c:Addr) (G:ai):FuncData:=kla_fn "<lambda>" j params body scope [] pm (.ref c) G
noncomputable def Yc (f:Addr) (fd:FuncData):HO:=.ext λh=>h.get? f=some { cls:=.type "function",data:=.func fd }
noncomputable def Z8 (c:Addr) (j:Str):HO:=.ext λh=>h.CodeRec (.ref c) j
noncomputable def Tab (H:Hp) (Pt:Addr) (pos:Pos) (j:Str):Prop:=H Pt=some (.tbl #[])\/∃a,H Pt=some (.tbl #[cv pos.line,cv pos.col,.ref a])/\H a=some (Z8 a j)
theorem Tab.ne {pos:Pos}(T:Tab H Pt pos j):∃ps,H Pt=some (.tbl ps):=by
 rcases T with z | ⟨a,z,_⟩
 ·exact ⟨_,z⟩
 ·exact ⟨_,z⟩
theorem Tab.same {pos:Pos}(T:Tab H Pt pos qual) (s:jo H H'):Tab H' Pt pos qual:=by
 rcases T with z | ⟨a,z,y⟩
 ·exact .inl (s _ _ z)
 ·exact .inr ⟨a,s _ _ z,s _ _ y⟩
theorem Tab.ext {b:Addr}{pos:Pos}{xs:List V}(T:Tab H Pt pos qual) (j:H b=some (.lst xs)) (e:Ext b H H'):Tab H' Pt pos qual:=by
 rcases T with z | ⟨a,z,y⟩
 ·exact .inl (e _ _ z (jm z j (by intro q;cases q)))
 ·exact .inr ⟨a,e _ _ z (jm z j (by intro q;cases q)),e _ _ y (jm y j (by intro q;cases q))⟩
theorem Tab.extN {b:Addr}{pos:Pos}(T:Tab H Pt pos qual) (j:H b=none) (e:Ext b H H'):Tab H' Pt pos qual:=T.same λc o h=>e c o h (j4 h j)
noncomputable def Bm (mg:Str->Option ai) (base:Heap):Prop:=∃b a,mg "__builtins__" = some (.ref b)/\b≠nc/\base.get? b=some a/\a.cls = .type "module" /\ a.dict=some nc/\a.data = .plain
theorem Ud {K:af}{k:Nat}{f c:Addr}{pm G:ai}{x:Str}{s:Shared}{u:ai}{t:TE}
  (ho:s.heap.get? f=some { cls:=.type "function",data:=.func (uR j params body scope pm c G) }) (ab:s.heap.CodeRec (.ref c) j) (S:FnScope N [x] scope) (Y:Room (k+1) A) (U:Env0 P w K mg base A outer s H)
  (hb:∀pm c G u,d5 (uR j params body scope pm c G) ⟨[u],[]⟩=pure [(x,u)]) (r:jE v u)
  (ht:PE (uk CX0 P w K mg base N j scope f (.ref c) A outer s H E0).nox body t) (q:t (start N [v]) H Q) :
  dO (ay P w) A (.call (.ref f) ⟨[u],[]⟩) (CR CX0 outer P w H s Q E0) s:=by
 have g:s.heap.NoLimit:=U.mod.nolimit.keeps λb o e=>(U.bs b o e).1
 have a:∀y∈([x].zip [u]),scope.names.lookup y.1=some .local\/(scope.names.lookup y.1=some .cell/\((si ↥12 scope.names []).lookup y.1).isSome=true):=λ⟨n,v⟩ m=>by
  rcases S.par n (lp m).1 with q | q
  ·exact .inl q
  ·exact .inr ⟨q,iu _ _ _ (.inl q)⟩
 refine kla_callFunE Y.depth ho rfl S.co S.gen rfl ab ?_
 rw [hb]
 refine wpAny_pure (lX (binds:=[x].zip [u]) S.kind a λenv p s1 y=>?_)
 subst p
 refine ⟨g.keeps y.toInCall.keep,kla_codeExpr ?_⟩
 have I:Inv (uk CX0 P w K mg base N j scope f (.ref c) A outer s H E0) [] (start N [v]) H s1:=Js S Y.hd U rfl (Paired.cons r .nil) y
 refine bf (ht.nox [] s1 (start N [v]) H _ I q) (λz s' d=>?_) λe s' d=>d
 obtain ⟨h,H',J,i,l⟩:=d
 exact ⟨h,H',J.os,J.bare,J.base,J.hok,i,l⟩
section
variable {X:Cx}{pins:List (Addr×Obj)}{σ:St}{H:Hp}{s:Shared}
theorem VY {pos:Pos}{Q:ai->Shared->Prop}(I:Inv X pins σ H s) (G:X.env.code = .ref c) (CH:CodeHd X.base c Pt) (hB:Bm X.mg X.base)
  (U:pS scope X.env=pure []) (Y:defaultsOf params X.env=([],[])) (T:Tab H Pt pos ↥61)
  (k:∀f H' s' pm c' j,Inv X pins σ H' s'->H f=none->H' f=some (Yc f (uR ↥61 params body scope pm c' j))->H' c'=some (Z8 c' ↥61)->Ext Pt H H'->Tab H' Pt pos ↥61->Q (.ref f) s') :
  ax ↥6 X.A (eval (.Lambda params body scope pos) X.env) Q E s:=by
 refine kla_eval Y ?_
 obtain ⟨bm,ob,b1,b2,L,b4,b5,Z⟩:=hB
 obtain ⟨a2,aL⟩:=T.ne
 have trk:∀{b:Addr} {o:Obj},X.base.get? b=some o->b≠Pt:=λ{b o} e z=>by
  have:=(I.bs b o e).2
  rw [z,aL] at this;cases this
 have P:s.heap.Ns mainGlobals X.mg:=I.ok.mod.glob.keeps I.bk
 have an:mainGlobals≠Pt:=by
  obtain ⟨o,es,V,e,_⟩:=I.ok.mod.glob
  exact trk e
 have az:bm≠mainGlobals:=λq=>by
  obtain ⟨o,es,V,e,hd,_⟩:=I.ok.mod.glob
  rw [q,e] at L;cases L;rw [hd] at Z;cases Z
 have R:s.heap.BuiltinsAt X.mg Pt:=⟨bm,ob,b1,b2,az,trk L,I.bk _ _ L,b4,b5,Z⟩
 have LS:∀(f:Addr) (fd:FuncData) (h1 h2:Heap),h1.get? f=some { cls:=.type "function",data:=.func fd }->(∀o,h1.get? f=some o->h2.get? f=some o)->h2.get? f=some { cls:=.type "function",data:=.func fd }:=λf fd h1 h2 e m=>m _ e
 have CS:∀(c:Addr) (q:Str) (h1 h2:Heap),h1.CodeRec (.ref c) q->(∀o,h1.get? c=some o->h2.get? c=some o)->h2.CodeRec (.ref c) q:=λc q h1 h2 ⟨c',o,vs,t,e,g,r⟩ m=>by
  cases e
  exact ⟨c,o,vs,t,rfl,m _ g,r⟩
 rcases T with h | ⟨c',h,K⟩
 ·have B:s.heap.get? Pt=some (sW #[]):=I.hok Pt _ h
  refine kla_makeFunction (mg:=X.mg) U I.ok.glob P G (CH.keeps I.bk) B trivial rfl an R λc' j h' tk hx x O p ac=>?_
  have as:H c'=none:=I.hok.fresh x
  have l:s.heap.objs.size<=h'.objs.size:=ff (c5 x O)
  have d:H h'.objs.size=none:=I.hok.fresh l
  have N:∀{b:Addr} {o:Obj},s.heap.get? b=some o->b≠c':=λ{b o} e=>aF (aX (aw e) x)
  have M:∀{b:Addr} {o:Obj},s.heap.get? b=some o->b≠h'.objs.size:=λ{b o} e=>aF (aX (aw e) l)
  have a1:Pt≠c':=N B
  have a0:Pt≠h'.objs.size:=M B
  have ap:c'≠h'.objs.size:=aF O
  have e':h'.get? Pt=some (sW #[cv pos.line,cv pos.col,.ref c']):=by simpa using ac
  have a:∀{b:Addr} {o:HO},H b=some o->b≠Pt->upd ↥26 h'.objs.size ↥15 b=some o:=λ{b o} e n=>by
   rw [j8 (j4 e d),j8 (j4 e as),j8 n];exact e
  have C:upd ↥26 h'.objs.size ↥15 Pt=some (.tbl #[cv pos.line,cv pos.col,.ref c']):=by
   rw [j8 a0,j8 a1,j9]
  have D:upd ↥26 h'.objs.size ↥15 c'=some (Z8 c' ↥61):=by
   rw [j8 ap,j9]
  refine k h'.objs.size (upd ↥26 h'.objs.size ↥15) _ ((X.mg "__name__").getD .none) c' j ?_ d j9 D (λb o e n=>a e n) (.inr ⟨c',C,D⟩)
  have i:∀b o,b≠Pt->s.heap.get? b=some o->(h'.push (kla_obj "<lambda>" ↥61 params body scope [] ((X.mg "__name__").getD .none) c' j)).get? b=some o:=λb o n e=>ah _ (hx b o n e)
  have J:∀{b:Addr},H b=none->b≠Pt:=λ{b} e z=>by rw [z,h] at e;cases e
  refine I.step (g':=s.gens) (d':=s.drawn) (ch:=[]) (λ_ z=>nomatch z) (λb o _ _ _ e n=>i b o (J n) e) (λb o _ _ _ e n=>⟨o.slots,i b o (J n) e⟩) (λb o _ e n=>?_) (λb o _ e=>?_) (λb xs e=>?_) (λb o u e=>?_) (λb ps e=>?_) (λm hm=>?_) (λb u e=>?_) I.bare
  ·rw [j8 (M e),j8 (N e),j8 (J n)];exact n
  ·by_cases y:b=Pt
   ·subst y;exact ⟨_,ah _ e'⟩
   ·exact ⟨o,i b o y e⟩
  ·exact a e (jm e h ↥44)
  ·exact a e (jm e h ↥44)
  ·by_cases y:b=Pt
   ·subst y
    rw [h] at e;cases e
    exact ⟨#[cv pos.line,cv pos.col,.ref c'],by rw [C];simp⟩
   ·exact ⟨#[],by rw [a e y];simp⟩
  ·obtain ⟨o,es,V,ho,r⟩:=hm
   exact ⟨o,es,V,i _ o (J I.free) ho,r⟩
  ·by_cases h1:b=h'.objs.size
   ·subst h1
    rw [j9] at e;cases e
    exact ⟨aE _ rfl,⟨_,aE _ rfl⟩,λh1 h2 e m=>LS _ _ h1 h2 e m⟩
   ·by_cases h2:b=c'
    ·subst h2
     rw [D] at e;cases e
     obtain ⟨c2,oc,vs,t,e2,al,r⟩:=id p
     cases e2
     exact ⟨p.keeps λb o e=>ah _ e,⟨_,ah _ al⟩,λh1 h2 e m=>CS _ _ h1 h2 e m⟩
    ·by_cases S:b=Pt
     ·subst S
      rw [C] at e;cases e
      exact ah _ e'
     ·rw [j8 h1,j8 h2,j8 S] at e
      refine (I.hok b u e).stay (λb' v hc q=>i b' v ?_ q) (λb' q=>a q (jm q h ↥44)) λb' xs q=>a q (jm q h ↥44)
      rcases hc with z | z
      ·rw [z];exact S
      ·exact jm z h ↥44
 ·have B:s.heap.get? Pt=some (sW #[cv pos.line,cv pos.col,.ref c']):=I.hok Pt _ h
  have ab:TriplesOk (#[cv pos.line,cv pos.col,b8 c']:Array ai).toList:=TriplesOk_snoc pos.line pos.col (.ref c') [] trivial
  have am:codeAmong pos (#[cv pos.line,cv pos.col,b8 c']:Array ai).toList=some (.ref c'):=codeAmong_snoc (c:=.ref c') [] trivial rfl
  refine kla_makeFunctionHit (mg:=X.mg) U I.ok.glob P G (CH.keeps I.bk) B ab am R λj h' tk hk l=>?_
  have d:H h'.objs.size=none:=I.hok.fresh l
  refine k h'.objs.size (upd H h'.objs.size ↥15) _ ((X.mg "__name__").getD .none) c' j ?_ d j9 (by rw [j8 (j4 K d)];exact K) (Ext.new d) (.inr ⟨c',by rw [j8 (j4 h d)];exact h,by rw [j8 (j4 K d)];exact K⟩)
  exact I.laid (λb o e=>ah _ (hk b o e)) l ⟨aE _ rfl,⟨_,aE _ rfl⟩,λh1 h2 e m=>LS _ _ h1 h2 e m⟩
theorem Inv.adopt {D:Addr}{j:Obj}{h':Heap}{t':Nat}(I:Inv X ((D,j)::pins) σ H s) (h1:X.s₀.heap.objs.size<=D) (h2:∀x c,X.env.cells.lookup x=some c->c≠D) (G:∀p∈X.pn++pins,p.1≠D)
  (k:∀b u,b≠D->s.heap.get? b=some u->h'.get? b=some u) (new:qq X.prog X.w (upd H D o) h' D o):Inv X pins σ (upd H D o) { s with heap:=h',toks:=t' }:=by
 obtain ⟨B,nD,i,_,_⟩:=I.pin (D,j) (aJ _ aM)
 have h:Inv X pins σ H s:=I.pins_of λp l=>I.pin p (aJ _ (aK _ l))
 have g:∀b u,H b=some u->b≠D:=λb u e z=>by rw [z,nD] at e;cases e
 have a:∀{b:Addr} {u:HO},H b=some u->upd H D o b=some u:=λ{b u} e=>by rw [j8 (g b u e)];exact e
 refine h.step (g':=s.gens) (d':=s.drawn) (ch:=[D]) (λb f=>?_) (λb o _ _ d e _=>k b o (λz=>d (by simp [z])) e) (λb o _ _ d e _=>⟨o.slots,k b o (λz=>d (by simp [z])) e⟩) (λb o d _ n=>by rw [j8 (λz=>d (by simp [z]))];exact n)
  (λb o d e=>⟨o,k b o (λz=>d (by simp [z])) e⟩) (λ_ _ e=>a e) (λ_ _ _ e=>a e) (λb ps e=>⟨#[],by rw [a e];simp⟩) (λm y=>?_) (λb u e=>?_) h.bare
 ·have e:b=D:=by simpa using f
  subst e
  exact ⟨.inr h1,i,h2,G⟩
 ·obtain ⟨o,es,A,t,r⟩:=y
  exact ⟨o,es,A,k _ o (cV i) t,r⟩
 ·by_cases f:b=D
  ·subst f
   rw [j9] at e;cases e
   exact new
  ·rw [j8 f] at e
   refine (h.hok b u e).stay (λc v d q=>k c v ?_ q) (λ_ q=>a q) λ_ _ q=>a q
   rcases d with z | z
   ·rw [z];exact f
   ·exact g c _ z
end
end L2
end
section
namespace L2
open PySem.W
noncomputable def Gy (H:Hp) (ks:List V) (G:Nat->List Int) (j:Nat):Prop:=ks.length=j/\∀i,i<j->∃q,ks[i]? = some (V.ref q)/\H q=some (.tup ((G i).map V.int))
theorem XT {a b:List ai}(h:a.length=b.length):(a.toArray.zip b.toArray).map (·.2)=b.toArray:=by
 apply Array.toList_inj.mp
 rw [eR,ksk_zip]
 show (a.zip b).map Ad=b
 rw [sr]
 omega
section
variable {X:Cx}{pins:List (Addr×Obj)}{σ:St}{H:Hp}{s:Shared}
theorem Xn {keyf:Nat->List Int}{Q:ai->Shared->Prop}(I:Inv X pins σ H s) (hq:SqL X.K H p vs) (h64:vs.length<64) (hne:∀i,i<vs.length->keyf i≠[])
  (hcall:∀i v,vs[i]? = some v->∀pins' s' H' u,Inv X pins' σ H' s'->jo H H'->jE v u->ax ↥6 X.A.in1.in1 (call (.ref f) [u]) (EP X pins' σ λkv H''=>jo H' H''/\∃q,kv = .ref q/\H'' q=some (.tup ((keyf i).map V.int))) (λ_ _=>False) s')
  (k:∀l H' out s',Inv X pins σ H' s'->H l=none->H' l=some (.lst out)->jo H H'->yj y4 keyf vs out->Q (.ref l) s') :
  ax ↥6 X.A (call ↥128 [.ref p] [(aj "key",.ref f)]) Q E s:=by
 obtain ⟨its,rv,pl,hz⟩:=I.list hq
 have hlen:its.length=vs.length:=rv.length.symm
 refine call_function_entry_kw oN nJ nK (ksk_s1 _ _) ?_
 unfold Builtin.«sorted»
 refine aa (m:=pT "sorted" 1 1 _) ↥46
 refine aa (rM pl.isList ?_ (by rw [bE];omega))
 refine aa (eJ ?_ (by rw [bE];omega))
 have hsz: (↥1).objs.size=s.heap.objs.size+1:=by
  rw [cS,lZ]
 have ho:((↥1).push ↥17).get? ↥12=some ↥17:=by
  rw [<- hsz];exact aE _ rfl
 have keep:∀b o,s.heap.get? b=some o->((↥1).push ↥17).get? b=some o:=λb o q=>by
  have hlt:b<s.heap.objs.size:=aw q
  rw [bX _ _ _ (by rw [hsz];exact aF (bW hlt)),bN _ _ _ _ (aF hlt),bX _ _ _ (aF hlt)]
  exact q
 show ax _ _ _ _ _ { s with heap:=(↥1).push ↥17 }
 rw [hsz]
 refine aa (bZ (wpAny_call_entry_kw m6 ⟨_,ho,rfl⟩ ly ?body (ksk_l1 _ _)))
 case body =>
  generalize (↥1).push ↥17=h0 at ho keep
  generalize ha:s.heap.objs.size+1=a at ho
  have hDs:s.heap.objs.size<=a:=by rw [<- ha];exact fc _
  have aNew:∀b o,s.heap.get? b=some o->b≠a:=λb o q=>by have:=aw q;rw [<- ha];exact aF (bW this)
  show ax ↥6 X.A.in1.in1 (Builtin.«list.sort» ⟨[.ref a],[(aj "key",.ref f)]⟩) _ _ { s with heap:=h0 }
  rw [ksk_t1]
  unfold ksk_tree
  have hal:a<h0.objs.size:=aw ho
  refine aa (lN ho rfl ?_)
  refine aa ↥103
  obtain ⟨e1,ho1⟩:∃e1,(h0.update a ↥71).get? a=some ↥118:=⟨_,dJ ho (λ_=>#[])⟩
  refine aa (dQ ho1 rfl ?_)
  refine aa ↥96
  refine aa (eJ ?_ (aB _))
  refine bZ ?_
  have ho5: (↥2).get? a=some ↥118:=ah _ ho1
  have keep5:∀b o,s.heap.get? b=some o->(↥2).get? b=some o:=λb o q =>
   ah _ ↥89
  show ax ↥6 X.A.in1.in1 (ksk_rest a (.ref f) false its.toArray e1 (.ref (↥2).objs.size)) _ _
   { s with heap:=(↥2).push ↥68 }
  generalize (h0.update a ↥71).push (b7 "tuple" its.toArray 0)=h5 at ho5 keep5
  have I5:Inv X pins σ H { s with heap:=h5,toks:=s.toks }:=I.kept keep5
  have hHa:H a=none:=I.hok.fresh hDs
  have hHk:H h5.objs.size=none:=I5.hok.fresh (ak _)
  have hLoc:a≠X.env.locals:=λz=>by
   obtain ⟨m,⟨o,es,ep,e,_⟩,_⟩:=I.loc
   exact aNew _ _ e z.symm
  have hFs:a∉X.fs:=I.nofs hDs
  have hCell:∀x c,X.env.cells.lookup x=some c->c≠a:=λx c e=>by
   obtain ⟨v,o,e2,_⟩:=I.cell x c e
   exact aNew c o e2
  have hPins:∀q∈X.pn++pins,q.1≠a:=λq hq=>aNew _ _ (I.pin q hq).1
  have I6:Inv X ((a,b7 "list" #[] e1)::pins) σ (upd H h5.objs.size (.lst [])) { s with heap:=h5.push ↥68,toks:=s.toks }:=by
   refine Inv.pins_of (I5.lnew (its:=[]) (ys:=[]) .nil (aB _)) λq hq=>?_
   rcases List.mem_cons.mp hq with rfl | hq
   ·refine ⟨ah _ ho5,?_,hLoc,hFs,λv=>by intro z;cases z⟩
    rw [j8 (aF (aw ho5))]
    exact hHa
   ·have J:=(I5.lnew (its:=[]) (ys:=[]) (t':=s.toks) .nil (aB _)).pin q (aJ _ hq)
    exact J
  unfold ksk_rest
  refine aa (d9 ?_)
  first
   | rw [List.forIn_toArray]
   | (rw [<- pU];simp only [List.toList_toArray])
   | rw [<- pU]
  refine aa (ksk_fold (λj s'=>∃H' ks,Inv X ((a,b7 "list" #[] e1)::pins) σ H' s'/\jo H H'/\H' h5.objs.size=some (.lst ks)/\Gy H' ks keyf j) its 0 _
   ⟨_,[],I6,jo.new hHk,j9,rfl,λi hi=>absurd hi (eC _)⟩ (λj x s' hx hJ=>?_) λs' hJ=>?_)
  ·-- a key
   rw [dq] at hJ ⊢
   obtain ⟨H',ks,J,sm,hk,hl,hks⟩:=hJ
   have hj:j<its.length:=(List.getElem?_eq_some_iff.mp hx).1
   have hv:vs[j]? = some (vs[j]'∅):=ae ∅
   obtain ⟨u,e5,ru⟩:=rv.get hv
   rw [hx] at e5
   cases e5
   refine aa (mI (bf (hcall j _ hv _ s' H' x J sm ru) (λkv s'' hk2=>?_) λ_ _ hF=>hF.elim))
   obtain ⟨kv',H'',J2,rk,sm2,q,rfl,hqq⟩:=hk2
   dsimp only
   have hk':=sm2 _ _ hk
   obtain ⟨z,itk,n,rvk,hlk,ek⟩:=J2.lstM hk'
   refine aa (cH ek rfl ?_ (by rw [au,<- hlk,hl,bE];omega) (aN (rj (Array.size_push ..)) (by rw [au,<- hlk,hl,bE];omega)))
   refine wpAny_pure ⟨rfl,_,ks++[.ref q],J2.lset (t':=s''.toks) (its':=itk++[kv]) hk' ek (by simp) (rvk.append (.cons rk .nil)) (by rw [ar,bu,hl];exact aN (by omega:j+1<=1000) ⋯),λb o e=>?_,j9,?_,λi hi=>?_⟩
   ·rw [j8 (j4 e hHk)]
    exact sm2 _ _ (sm _ _ e)
   ·rw [ar,bu,hl]
   ·by_cases hij:i<j
    ·obtain ⟨q',e6,e7⟩:=hks i hij
     refine ⟨q',by rw [ee ∅];exact e6,?_⟩
     have e8:=sm2 _ _ e7
     rw [j8 (jm e8 hk' ↥44)]
     exact e8
    ·have:i=j:=∅
     subst this
     refine ⟨q,by rw [dW ∅,hl];simp,?_⟩
     rw [j8 (jm hqq hk' ↥44)]
     exact hqq
  ·-- behind the keys
   rw [dq] at hJ
   obtain ⟨H',ks,J,sm,hk,hl,hks⟩:=hJ
   obtain ⟨z,itk,n,rvk,hlk,ek⟩:=J.lstM hk
   have hlk':itk.length=its.length:=∅
   refine aa (lN ek rfl ?_)
   obtain ⟨eD,nD,_⟩:=J.pin (a,b7 "list" #[] e1) (aJ _ aM)
   have hak:a≠h5.objs.size:=λz=>by rw [z,hk] at nD;cases nD
   have keyAt:∀i,i<its.length->∃q itq o m,itk.getD i aV = .ref q/\s'.heap.get? q=some o/\o.cls = .type "tuple" /\ o.data = .seq itq.toArray m/\dv itq (keyf i):=λi hi=>by
    obtain ⟨q,e6,e7⟩:=hks i hi
    obtain ⟨u,e8,ru⟩:=rvk.get e6
    cases ru
    obtain ⟨zz,itq,rq,o,e9,ec,m,ed⟩:=J.hok q _ e7
    exact ⟨q,itq,o,m,by rw [ao,e8];rfl,e9,ec,ed,xG rq⟩
   have fin:∀(ix:List Nat) (st':SortSt),ix.Perm ↥95->(ix.map keyf).Pairwise y4.kle->eS st'=none->(fO st').map (·.2)=(↥40).toArray ->
     ax ↥6 X.A.in1.in1 (ksk_tail a false e1 (.ref h5.objs.size) st') (λfin s'=>∃v,fin = .done (.ret v)/\ax ↥6 X.A.in1 (do let _ <- pure v;ret (b8 a)) ↥32 E s') E s':=by
    intro ix st' hp hg hf hout
    unfold ksk_tail
    dsimp only
    rw [hout]
    have hol: (↥40).length<64:=by rw [ag,hp.length_eq,bQ];omega
    refine aa (cH ek rfl ?_ (by rw [au,hlk',bE];omega) (aB _))
    refine aa (oQ ?_)
    have J2:Inv X ((a,b7 "list" #[] e1)::pins) σ (upd H' h5.objs.size (.lst [])) { s' with heap:=s'.heap.update h5.objs.size ↥71,toks:=s'.toks }:=J.lset (its':=[]) (ys:=[]) hk ek rfl .nil (aB _)
    have eD2:(s'.heap.update h5.objs.size ↥71).get? a=some ↥118:=(bN _ _ _ _ hak).trans eD
    refine aa (dQ eD2 rfl ?_)
    refine aa (cH eD2 rfl ?_ (aB _) (by simp only [cF,if_false];rw [au,bE];omega))
    rw [hf]
    simp only [bne_self_eq_false,cF,if_false]
    refine wpAny_pure ⟨_,rfl,aa ↥111⟩
    have eo:∃n,((s'.heap.update h5.objs.size ↥71).update a (aS λ_=>(↥40).toArray)).get? a=some (b7 "list" (↥40).toArray n):=⟨_,dJ eD2 λ_=>_⟩
    obtain ⟨n',eo⟩:=eo
    have J3:=J2.adopt (o:=.lst (ix.map λi=>vs.getD i V.non)) (t':=s'.toks) (aN I.sz hDs) hCell hPins
     (h':=(s'.heap.update h5.objs.size ↥71).update a (aS λ_=>(↥40).toArray)) (λb u n e=>(bN _ _ _ _ n).trans e) ⟨by rw [ag,hp.length_eq,bQ];exact aN (by omega:its.length<=1000) ⋯,_,n',vz rv ix,eo⟩
    refine k a _ _ _ J3 hHa j9 (λb o e=>?_) ⟨ix,by rw [<- hlen];exact hp,rfl,hg⟩
    rw [j8 (j4 e hHa),j8 (j4 e hHk)]
    exact sm _ _ e
   unfold ksk_end
   dsimp only
   simp only [cF,if_false]
   by_cases h2:its.toArray.size<2
   ·rw [if_pos h2,if_pos h2]
    refine aa ↥46
    rw [lA]
    refine aa ↥46
    dsimp only
    rw [au] at h2
    refine fin ↥95 _ (iB _) ?_ rfl ?_
    ·have hcase:its.length=0\/its.length=1:=∅
     rcases hcase with z | z
     ·rw [z];exact fM
     ·rw [z];exact dw _ _
    ·rw [yE]
     exact XT hlk'
   ·rw [if_neg h2,if_neg h2]
    rw [au] at h2
    have tups:∃fs,KatTups s'.heap itk fs/\0<fs.length/\∀v∈fs,Looks ↥6 s'.heap (A6 v) (.type "int"):=by
     have go:∀(l:List ai),(∀i,i<l.length->∃q itq o m ns,l.getD i aV = .ref q/\s'.heap.get? q=some o/\o.cls = .type "tuple" /\ o.data = .seq (nM itq) m/\dv itq ns/\ns≠[]) ->
       ∃fs,KatTups s'.heap l fs/\fs.length=l.length/\∀v∈fs,Looks ↥6 s'.heap (A6 v) (.type "int"):=by
      intro l
      induction l with
      | nil=>intro _;exact ⟨[],.nil,rfl,λ_ h=>nomatch h⟩
      | cons v l ih =>
       intro h
       obtain ⟨fs,t,e,lk⟩:=ih λi hi=>h (i+1) (by rw [bo];omega)
       obtain ⟨q,itq,o,m,ns,e1,e2,e3,e4,e5,e6⟩:=h 0 (by rw [bo];omega)
       have e1':v = .ref q:=e1
       subst e1'
       cases e5 with
       | nil=>exact absurd rfl e6
       | cons n t' r =>
        refine ⟨.int n t'::fs,KatTups.cons e2 e3 e4 (by simp) t,by rw [bo,bo,e],λv hv=>?_⟩
        rcases List.mem_cons.mp hv with rfl | hv
        ·exact pG rfl
        ·exact lk v hv
     obtain ⟨fs,t,e,lk⟩:=go itk λi hi=>by
      obtain ⟨q,itq,o,m,a1,a2,a3,a4,a5⟩:=keyAt i ∅
      exact ⟨q,itq,o,m,keyf i,a1,a2,a3,a4,a5,hne i ∅⟩
     exact ⟨fs,t,∅,lk⟩
    obtain ⟨fs,t,hfs,lk⟩:=tups
    refine aa (kat_kind (T:=.type "int") t hfs lk rfl ?_)
    rw [show (iS "int" != iS "tuple")=true from rfl]
    refine aa (bf (kat_run (ks:=itk) (vs:=its) (κ:=tuples' true) (G:=λp s2=>(qr its.length p/\(p.toList.map keyf).Pairwise y4.kle)/\s2=s') (Q:=λst' s2=>∃p:Array Nat,fO st'=p.map (aI (itk.toArray.zip its.toArray))/\eS st'=none/\(qr its.length p/\(p.toList.map keyf).Pairwise y4.kle)/\s2=s')
     hlk' ∅ ∅ (λp st' s' a1 a2 a3 a4=>⟨p,a2,a3,a4⟩) (xc.wp (lt:=ltK y4 keyf) (n:=its.length) (I:=λs2=>s2=s') (λi j C s2 hi hj hI hC=>?_) (λp s2 hp hI=>⟨hp,hI⟩) (kY ∅ λp' hP hS=>⟨hP,hS.pairwise hP.size⟩) rfl)) ?_ λ_ _ e=>e)
    ·subst hI
     obtain ⟨q,itq,o,m,a1,a2,a3,a4,a5⟩:=keyAt i hi
     obtain ⟨q',itq',o',m',b1,b2,b3,b4,b5⟩:=keyAt j hj
     unfold kas_ask
     rw [a1,b1]
     exact gX a2 a4 b2 b4 a5 b5 (hC _ rfl)
    ·rintro ⟨⟨⟩,st'⟩ s2 ⟨p,har,hf,⟨hP,hG⟩,rfl⟩
     dsimp only
     exact fin p.toList st' ↥63 hG hf (tG hlk' har)
end
end L2
end
section
namespace L2
open PySem.W
section
variable {prog:Program}{w:bx}{A:bC}{E:ai->Shared->Prop}{s:Shared}
theorem Zq (n:Nat):i0 none none (-1) (n:Int)=((n:Int)-1,-1):=by
 unfold i0
 simp
theorem Zp (n:Nat):ef ((n:Int)-1) (-1) (-1)=n:=by
 unfold ef
 have h1:¬((-1:Int) > 0):=⋯
 simp only [h1,if_false]
 by_cases h:n=0
 ·subst h;simp
 ·rw [show (- -1:Int)=1 by decide]
  simp only [Int.ediv_one]
  split <;> omega
theorem wC {n:Nat}{Q:Int×Int×Nat->Shared->Prop}(U:s.heap.IsSliceOf G .none .none j) (I:A5 j (some (-1)))
  (h:Q ((n:Int)-1,-1,n) s):ax (ay prog w) A (m7 (.ref G) (pure (n:Int))) Q E s:=by
 obtain ⟨os,a,c,b⟩:=id U
 unfold m7 Builtin.Slice.sliceFields
 refine aa (aa (c7 a b (x:=.none) rfl (aa (c7 a b (x:=.none) rfl (aa (c7 a b (x:=j) rfl ↥46))))))
 refine aa (HT.slicePart_ I ?_)
 show ax _ _ (if ((-1:Int) == 0)=true then _ else _) _ _ s
 rw [if_neg ⋯]
 refine aa (HT.slicePart_ .none (aa (HT.slicePart_ .none (aa ↥46))))
 show ax _ _ (match i0 none none (-1) (n:Int) with | (lo,hi)=>pure (lo,(-1:Int),ef lo hi (-1))) _ _ s
 rw [Zq n]
 show ax _ _ (pure ((n:Int)-1,(-1:Int),ef ((n:Int)-1) (-1) (-1))) _ _ s
 rw [Zp]
 exact wpAny_pure h
theorem V9 (xs:Array ai):((aW xs.size).filterMap λ(m:Nat)=>xs[(((xs.size:Int)-1)+(m:Int) * -1).toNat]?).toArray=xs.toList.reverse.toArray:=by
 have e:((aW xs.size).filterMap λ(m:Nat)=>xs[(((xs.size:Int)-1)+(m:Int) * -1).toNat]?)=((aW xs.size).map λk=>xs.size-1-k).filterMap (xs[·]?):=by
  rw [List.filterMap_map]
  congr 1
  funext m
  show xs[(((xs.size:Int)-1)+(m:Int) * -1).toNat]? = xs[xs.size-1-m]?
  congr 1
  omega
 rw [e,krv_range,List.filterMap_reverse,krv_all]
theorem uM {t:Addr}{Q:ai->Shared->Prop}(j:IsTup s.heap t items) (I:s.heap.IsSliceOf G .none .none U) (Y:A5 U (some (-1)))
  (h:Q ↥18 { s with heap:=s.heap.push { cls:=.type "tuple",data:=.seq items.toList.reverse.toArray } }) (hsz:items.size<=sizeLine):ax (ay prog w) A (nv (.ref t) (.ref G)) Q E s:=by
 have a:sizeOk (.seq items.toList.reverse.toArray):=by
  show items.toList.reverse.toArray.size<=sizeLine
  rw [au,lJ,aG]
  exact hsz
 obtain ⟨os,b,c,e⟩:=id I
 have d:s.TypeIs (.ref G) "slice":=⟨os,b,c⟩
 unfold nv
 try with_reducible refine bZ ?_
 first | refine aa ↥46 | skip
 refine aa (wpAny_sequenceKey j.typeIs ⋯ ?_)
 refine aa (dA (name:=aj "__getitem__") j.typeIs iM
  (dj iM j.typeIs entry_tuple_getitem ?_ (args_tuple_getitem _ _)))
 show ax _ _ (Builtin.Tuple.tupleItemsOf (.ref t) >>= _) _ _ s
 refine aa (tupleItemsOf_ j ?_)
 refine aa (nN d ?_)
 rw [if_pos ⋯]
 refine aa (wC I Y ?_)
 show ax _ _ (if (((items.size:Int)-1) == 0 && (-1:Int) == 1 && items.size == items.size)=true then _ else _) _ _ s
 rw [if_neg (by simp),V9]
 first
  | exact aa (m:=eK _) (cO ↥124 a)
  | exact aa (m:=eK _) (cO (aa (wpAny_pure ↥124)) a)
  | exact aa (aa (m:=eK _) (cO (wpAny_pure ↥124) a))
  | exact aa (aa (m:=eK _) (cO ↥124 a))
end
section
variable {X:Cx}{e:Expr}{te:TE}{pos p2 p3 p4:Pos}{j3:Nat}
inductive tRevTI (K:af) (Q:VK) (x:V) (H2:Hp):Prop
 | mk (a:_) (xs:_) (_:x = .ref a) (_:SqT K H2 a xs) (_:New H2 (.tup xs.reverse) Q)
noncomputable def GO (K:af) (te:TE):TE:=λσ H Q=>te σ H λx H2=>tRevTI K Q x H2
inductive tRevLI (K:af) (Q:VK) (x:V) (H2:Hp):Prop
 | mk (a:_) (xs:_) (_:x = .ref a) (_:SqL K H2 a xs) (_:New H2 (.lst xs.reverse) Q)
noncomputable def Eg (K:af) (te:TE):TE:=λσ H Q=>te σ H λx H2=>tRevLI K Q x H2
theorem Um (K:af) (G:PE X e te) (U:X.K=K:=by rfl):PE X (.Subscript e ↥45 pos) (GO K te):=by
 subst U
 intro pins s σ H Q I h
 refine pR (thn ↥107 λv s1 ⟨x,H1,D,l,m⟩=>?_)
 refine wpAny_Slice ?_
 rw [tW]
 refine wpAny_pure ?_
 refine wpAny_pure ?_
 rw [tX]
 obtain ⟨a,xs,rfl,p,q⟩:=m
 refine thn (kZ vY j7 pins s1 σ H1 (λy H2=>y = .int (-1)/\H2=H1) D ⟨_,rfl,rfl,rfl⟩) λu c ⟨y,E,C,k,z,B⟩=>?_
 subst z B
 obtain ⟨tk,rfl⟩:=k
 cases l
 have f:Inv X pins σ E { c with heap:=c.heap.push { cls:=.type "slice",data:=.fields #[.none,.none,.int (-1) tk] } }:=C.kept (t':=c.toks) λb n q=>ah _ q
 obtain ⟨g,r,j,i⟩:=f.tuple p
 have d:g.toArray.size=xs.length:=by rw [au];exact r.length.symm
 show ax ↥6 X.A (mF e ↥45 (.ref a) (.ref c.heap.objs.size)) ↥62 X.xe { c with heap:=c.heap.push { cls:=.type "slice",data:=.fields #[.none,.none,.int (-1) tk] } }
 refine Ac (ops:=[.ref a,.ref c.heap.objs.size]) j.typeIs PyProof.Rows.slot_tuple_getitem.lookup ?_ ↥60
 refine uM j (pV ..) (.int _ _) ?_ (by rw [d];exact i)
 have t:=f.hok.fresh (ak _)
 refine ⟨.ref _,_,f.laid (t':=c.toks) (o:=.tup xs.reverse) (λb n q=>ah _ q) (ak _) ?_,rfl,q.at _ t⟩
 exact ⟨by rw [lJ];exact i,_,r.reverse,IsTup.new _ _⟩
theorem Ux (K:af) (G:PE X e te) (U:X.K=K:=by rfl):PE X (.Subscript e ↥45 pos) (Eg K te):=by
 subst U
 intro pins s σ H Q I h
 refine pR (thn ↥107 λv s1 ⟨x,H1,D,j,k⟩=>?_)
 refine wpAny_Slice ?_
 rw [tW]
 refine wpAny_pure ?_
 refine wpAny_pure ?_
 rw [tX]
 obtain ⟨a,xs,rfl,n,q⟩:=k
 refine thn (kZ vY j7 pins s1 σ H1 (λy H2=>y = .int (-1)/\H2=H1) D ⟨_,rfl,rfl,rfl⟩) λu c ⟨y,E,C,i,z,B⟩=>?_
 subst z B
 obtain ⟨tk,rfl⟩:=i
 cases j
 have d:Inv X pins σ E { c with heap:=c.heap.push { cls:=.type "slice",data:=.fields #[.none,.none,.int (-1) tk] } }:=C.kept (t':=c.toks) λb l q=>ah _ q
 obtain ⟨f,r,g,m⟩:=d.list n
 have p:f.length=xs.length:=r.length.symm
 show ax ↥6 X.A (mF e ↥45 (.ref a) (.ref c.heap.objs.size)) ↥62 X.xe { c with heap:=c.heap.push { cls:=.type "slice",data:=.fields #[.none,.none,.int (-1) tk] } }
 refine Ac (ops:=[.ref a,.ref c.heap.objs.size]) g.isList.typeIs slot_list_getitem.lookup ?_ ↥60
 refine mG g.isList (pV ..) .none .none (.int _ _) ⋯ ?_ (by rw [au];omega)
 rw [krv_pick]
 have t:=d.hok.fresh (ak _)
 refine ⟨.ref _,_,d.laid (t':=c.toks) (o:=.lst xs.reverse) (λb l q=>ah _ q) (ak _) ?_,rfl,q.at _ t⟩
 exact ⟨by rw [lJ];exact m,_,0,r.reverse,aE _ rfl⟩
end
theorem SqL.extT {K:af}{a:Addr}{H:Hp}{xs:List V}(j:H Pt=some (.tbl ps)) (x:Ext Pt H H') (h:SqL K H a xs):SqL K H' a xs:=by
 rcases h with (h | ⟨o,h⟩) | h
 ·exact .inl (.inl (x _ _ h (jm h j ↥44)))
 ·exact .inl (.inr ⟨o,x _ _ h (jm h j ↥44)⟩)
 ·exact .inr h
section
variable {X:Cx}{e body:Expr}{ta:TA}{tb:TE}{params:Arguments}{scope:Scope}{lpos kpos p pos:Pos}{N:List Str}{x:Str}{c Pt:Addr}{k:Nat}
noncomputable def WA (K:af) (Pt:Addr) (lpos:Pos) (j:Str) (N:List Str) (ta:TA) (tb:TE):TE:=λσ H Q=>ta σ H λxs H1=>Tab H1 Pt lpos j/\∃(p:Addr) (b:List V) (a:Nat->List Int),xs=[.ref p]/\SqL K H1 p b/\b.length<64/\(∀i,i<b.length->a i≠[]) /\
 (∀H2,Ext Pt H1 H2->∀i v,b[i]? = some v->tb (start N [v]) H2 λd c=>jo H2 c/\∃q,d = .ref q/\c q=some (.tup ((a i).map V.int))) /\
 ∀l H2 out,H1 l=none->H2 l=some (.lst out)->Ext Pt H1 H2->Tab H2 Pt lpos j->yj y4 a b out->Q (.ref l) H2
theorem Z3 (hg:Gl X "sorted") (hm:X.mg "sorted" = none) (ha:PA X [e] ta) (hcode:X.env.code = .ref c) (CH:CodeHd X.base c Pt) (hB:Bm X.mg X.base) (hr:Room (k+3) X.A) (S:FnScope N [x] scope)
  (hb:∀pm c ctv u,d5 (uR ↥61 params body scope pm c ctv) ⟨[u],[]⟩=pure [(x,u)])
  (hbody:∀f c' s H,PE (uk CX0 X.prog X.w X.K X.mg X.base N ↥61 scope f (.ref c') X.A.in1.in1 X.stack s H E0).nox body tb)
  (hcl:pS scope X.env=pure []:=by rfl) (hdef:defaultsOf params X.env=([],[]):=by rfl)
  (he:dh pos (aU [e] X.env)=↥39::dh pos (aU [] X.env):=by rfl) (hplain:(dh pos (aU [e] X.env)).any (·.1)=false:=by rfl) :
  PE X (.Call (.Name "sorted" p) [e] [⟨some (aj "key"),.Lambda params body scope lpos,kpos⟩] pos) (WA X.K Pt lpos ↥61 N ta tb):=by
 intro pins s σ H Q I h
 refine dS (yG I hg hm mn ?_ ⋯ ⋯)
 refine callWith_kw (thn ↥52 λus s1 ⟨vs,H1,I1,r,q⟩=>?_) he hplain
 show ax _ _ (evalAll ((do let v <- eval (.Lambda params body scope lpos) X.env;ip pos;pure v)::[])) _ _ s1
 obtain ⟨T,a,xs,keyf,e1,hx,h64,hne,hkey,hq⟩:=q
 subst e1
 obtain ⟨u0,rfl,ru⟩:=vq r
 cases ru
 obtain ⟨ps0,hPt⟩:=T.ne
 refine wpAny_evalAll_cons (aa (VY I1 hcode CH hB hcl hdef T λf H2 s2 pm c' ctv I2 hf hf2 hc2 X2 T2=>aa (dP (wpAny_pure (wpAny_evalAll_nil ?_)))))
 show ax _ _ (call ↥128 [.ref a] [(aj "key",.ref f)]) _ _ s2
 refine Xn I2 (SqL.extT hPt X2 hx) h64 hne (λi v hv pins' s' H' u I' sm ru=>?_) λl H3 out s' I3 hl hl3 sm hs=>?_
 ·have X3:Ext Pt H1 H':=X2.trans (Ext.of_same sm)
  obtain ⟨ho,_⟩:=I'.hok f _ (sm _ _ hf2)
  obtain ⟨hcd,_⟩:=I'.hok c' _ (sm _ _ hc2)
  refine nj (eE (Ud (k:=k) ho hcd S (hr.in1.in1) I'.env0.in1.in1 hb ru (hbody f c' s' H') (hkey H' X3 i v hv)) λr s'' hq=>?_)
  cases r with
  | error e=>exact bM hq
  | ok fl =>
   cases fl with
   | ret u=>exact I'.after hq
   | next=>exact bM hq
   | brk=>exact bM hq
   | cont=>exact bM hq
 ·exact ⟨.ref l,H3,I3,rfl,hq l H3 out (X2.free hl (λz=>by rw [z] at hl;obtain ⟨p2,z2⟩:=T2.ne;rw [z2] at hl;cases hl)) hl3 (X2.trans (Ext.of_same sm)) (T2.same sm) hs⟩
end
end L2
end
section
namespace L2
open PySem.W
theorem V0 {P:Program}{w:bx}{K:af}{k:Nat}{fa a Pt:Addr}{x:Str}{s₁:Shared}{vs:List ai}
  (KX:K.In s₁.heap) (Y:s₁.heap.Ns mainGlobals mg) (j:s₁.heap.Ns nc mb) (al:∀x:Str,x ≠ "__name__" -> mb x=il x) (ab:s₁.heap.NoLimit) (hg:s₁.gens = #[])
  (I:s₁.heap.get? a=some { cls:=.type "list",data:=.seq vs.toArray }) (hi:dv vs ns) (hl:ns.length<=sizeLine) (hr:Room k pf)
  (G:s₁.heap.get? Pt=some (sW #[])) (am:K.lookup Pt=none) (CH:CodeHd s₁.heap c Pt) (hB:Bm mg s₁.heap)
  (F:∀base:Heap,K.In base->base.Ns mainGlobals mg->Bm mg base->FnOk P w K mg base CX0 k fa fd [x] sp) (U:∀(s:Shared) (u:ai),sU s fd ⟨[u],[]⟩ [(x,u)])
  (ac:∀H:Hp,SqL K H a ↥117->H Pt=some (.tbl #[])->sp [.ref a] H (λv _=>v = .bl true) λ_ _ _=>False) :
  dO (ay P w) pf (.call (.ref fa) ⟨[.ref a],[]⟩) (λr s'=>r = .ok (.ret (.bool true))/\OldK s₁.heap s'.heap/\s'.os=s₁.os/\iU s'.gens) s₁:=by
 have R:=wn hi
 have M:=hi.length
 have y:∀H:Hp,H Pt=some (.tbl #[])->(∀b,b≠Pt->H b=none\/∃o xs,H b=some (.frz o (.lst xs)))->SqL K H a ↥117->HOk P w H s₁.heap->(∀b,H b≠none->b=a\/b=Pt)->(H a≠none->K.lookup a=none) ->
   dO (ay P w) pf (.call (.ref fa) ⟨[.ref a],[]⟩) (λr s'=>r = .ok (.ret (.bool true))/\OldK s₁.heap s'.heap/\s'.os=s₁.os/\iU s'.gens) s₁:=by
  intro H T hO hS C Z hK
  have g:∀{b:Addr} {o:Obj},s₁.heap.get? b=some o->H b=none->(J4 s₁.heap H).get? b=some o:=λe n=>VI e n
  have B:∀{b:Addr} {o:Obj},s₁.heap.get? b=some o->(∀xs n,o.data≠.seq xs n)->(∀vs,o.data = .fields vs->o.cls≠.none)->H b=none:=λ{b o} e d1 d2=>by
   cases q:H b with
   | none=>rfl
   | some u =>
    rcases Z b (by rw [q];simp) with e' | e'
    ·subst e'
     rw [I] at e;cases e
     exact absurd rfl (d1 _ _)
    ·subst e'
     rw [G] at e;cases e
     exact absurd rfl (d2 _ rfl)
  have S:∀{b:Addr} {o:Obj} {es:Array DictEntry} {A:Nat},s₁.heap.get? b=some o->o.data = .dict es A->H b=none:=λ{b o es A} e d =>
   B e (λxs n z=>by rw [d] at z;cases z) (λvs z=>by rw [d] at z;cases z)
  have l:∀{b:Addr} {m:Str->Option ai},s₁.heap.Ns b m->(J4 s₁.heap H).Ns b m:=λ{b m} ⟨o,es,A,e,d,r⟩=>⟨o,es,A,g e (S e d),d,r⟩
  have J:K.In (J4 s₁.heap H):=λb o e=>g (KX b o e) (by
   cases q:H b with
   | none=>rfl
   | some u =>
    rcases Z b (by rw [q];simp) with e' | e'
    ·subst e'
     rw [hK (by rw [q];simp)] at e;cases e
    ·subst e'
     rw [am] at e;cases e)
  have X:Bm mg (J4 s₁.heap H):=by
   obtain ⟨bm,L,b1,b2,b3,b4,b5,Q⟩:=hB
   exact ⟨bm,L,b1,b2,g b3 (B b3 (λxs n z=>by rw [Q] at z;cases z) λvs z=>by rw [Q] at z;cases z),b4,b5,Q⟩
  have hM:Mod K mg (J4 s₁.heap H):=⟨J,l Y,⟨mb,l j,al⟩,let ⟨mc,h1,h2⟩:=ab;⟨mc,l h1,h2⟩⟩
  have e0:Env0 P w K mg (J4 s₁.heap H) pf [] s₁ H:=⟨rfl,hM,λb o e=>UM e,rj (YX _ _),trivial,λb j=>absurd (show b∈([]:List Addr) from j) (by simp),C,.of_eq hg⟩
  refine eE ((F _ J (l Y) X).run pf [] s₁ H ⟨[.ref a],[]⟩ [.ref a] [.ref a] _ _ hr e0 (U s₁ (.ref a)) (.cons rfl .nil) (ac H hS T)) λr s' h=>?_
  cases r with
  | error e=>exact bM h
  | ok fl =>
   cases fl with
   | next=>exact bM h
   | brk=>exact bM h
   | cont=>exact bM h
   | ret u =>
    obtain ⟨v,H',os,O,un,t,r',q⟩:=h
    have q':v = .bl true:=q
    subst q'
    obtain rfl:u=n9 true:=r'
    have kp:∀b o,b≠Pt->s₁.heap.get? b=some o->s'.heap.get? b=some o:=λb o j e=>by
     cases q:H b with
     | none=>exact un.keep b o e q (by intro z;exact absurd (show b∈([]:List Addr) from z) (by simp)) (by simp)
     | some u =>
      rcases hO b j with z | ⟨L,xs,z⟩
      ·rw [q] at z;cases z
      ·have z2:=un.frzs b L _ z
       obtain ⟨e1,_⟩:=C b _ z
       obtain ⟨e2,_⟩:=t b _ z2
       rw [e] at e1;cases e1
       exact e2
    obtain ⟨p,hm⟩:=un.tbls Pt _ T
    have D:s'.heap.get? Pt=some { cls:=.none,data:=.fields (#[]++p) }:=t Pt _ hm
    refine ⟨rfl,⟨λb o e=>?_,λb o e=>?_⟩,os,O⟩
    ·by_cases j:b=Pt
     ·subst j
      rw [G] at e;cases e
      exact .inr (.inl ⟨(CH.tab G).isCodeTable,rfl,#[],p,rfl,D⟩)
     ·exact .inl (kp b o j e)
    ·by_cases j:b=Pt
     ·subst j;exact ⟨_,D⟩
     ·exact ⟨o,kp b o j e⟩
 have E:a≠Pt:=λz=>by rw [z,G] at I;cases I
 cases N:K.lookup a with
 | some o =>
  have e:=KX a o N
  rw [I] at e
  cases e
  refine y (λb=>if b=Pt then some (.tbl #[]) else none) (if_pos rfl) (λb j=>.inl (if_neg j)) (.inr ⟨_,vs.toArray,_,N,rfl,rfl,rfl,by rw [au,M];exact hl,by simpa using R⟩) (λb u z=>?_) (λb z=>?_) λz=>absurd (if_neg E) z
  ·by_cases j:b=Pt
   ·have i:=(if_pos j).symm.trans z
    cases i
    subst j
    exact G
   ·have i:=(if_neg j).symm.trans z
    cases i
  ·by_cases j:b=Pt
   ·exact .inr j
   ·exact absurd (if_neg j) z
 | none =>
  refine y (λb=>if b=Pt then some (.tbl #[]) else if b=a then some (.frz { cls:=.type "list",data:=.seq vs.toArray } (.lst ↥117)) else none) (if_pos rfl) (λb j=>?_)
   (.inl (.inr ⟨{ cls:=.type "list",data:=.seq vs.toArray },(if_neg E).trans (if_pos rfl)⟩)) (λb u z=>?_) (λb z=>?_) λ_=>N
  ·by_cases f:b=a
   ·exact .inr ⟨_,_,(if_neg j).trans (if_pos f)⟩
   ·exact .inl ((if_neg j).trans (if_neg f))
  ·by_cases j:b=Pt
   ·have i:=(if_pos j).symm.trans z
    cases i
    subst j
    exact G
   ·by_cases f:b=a
    ·have i:=((if_neg j).trans (if_pos f)).symm.trans z
     cases i
     subst f
     exact ⟨I,by rw [ag];exact hl,vs,_,R,I⟩
    ·have i:=((if_neg j).trans (if_neg f)).symm.trans z
     cases i
  ·by_cases j:b=Pt
   ·exact .inr j
   ·by_cases f:b=a
    ·exact .inl f
    ·exact absurd ((if_neg j).trans (if_neg f)) z
inductive spLawT (K:af) (Pt:Addr) (vs:List V) (H:Hp) (Q:VK) (z_3:XK):Prop
 | mk (a:Addr) (ns:List Int) (_:vs=[.ref a]) (_:SqL K H a ↥117) (_:ns.length<=63) (_:H Pt=some (.tbl #[])) (_:∀H',Q (.bl true) H')
theorem Wa {l:sO}{loose:List Str}{YP:bx->Heap->Prop}{d:DefRec}{K:Al->af}(k:Nat) (c Pt:Addr) (hr:Room k pf) (hn:l.most=some 63) (I:d.params.defaults=[])
  (hY:∀(w:bx) (h:Heap),YP w h->(K w.params).In h/\h.get? Pt=some (sW #[])) (U:∀p:Al,(K p).lookup Pt=none) (hC:∀p:Al,codeHdIn (K p) c Pt=true)
  (F:∀(w:bx) (mg:Str->Option ai) (j:Addr) (h:Heap),(K w.params).In h->h.Ns mainGlobals mg->mg d.name=some (.ref j) ->
   ∃fd:FuncData,(∀(s:Shared) (u:ai),sU s fd ⟨[u],[]⟩ [("_law_script",u)])/\∀base:Heap,(K w.params).In base->base.Ns mainGlobals mg->Bm mg base->FnOk l.prog w (K w.params) mg base CX0 k j fd ["_law_script"] (spLawT (K w.params) Pt)) :
  PySem.W.WalkO q loose XP YP l.row.toRowW d [] (λf vs=>PySem.call f vs):=by
 refine Att.attach_call hn I λw D C mg E j o pm M doc a vs ns G Y J L B r m i e t=>?_
 obtain ⟨n,x⟩:=hY w _ Y
 obtain ⟨fd,v,A⟩:=F w mg j _ n G.T.g r
 exact V0 (c:=c) n G.T.g G.T.b G.T.builtins G.T.nolimit t m i (aN e ⋯) hr x (U w.params) (codeHd_of_K n (hC w.params)) G.T.bmain A v λH y z=>⟨a,ns,rfl,y,e,z,λ_=>rfl⟩
theorem Fun.okC {w:bx}{K:af}{mg:Str->Option ai}{base:Heap}{x:Str}{st:Stmt}{f:Addr}{oc:ai}{Y:Option Addr}{I:Array (Option ai)}{kV pm U:ai}{N:List Str}{k:Nat}{sp:Sp}
  (l:K.lookup f=some ⟨oc,Y,.func (bO x j (qf st) (jS st) (ja st) .none kV doc pm an (.ref c) U),I⟩) (cd:d6 K (.ref c) j=true) (S:FnScope N ps (ja st)) (len:∀vs H Q E,sp vs H Q E->vs.length=ps.length)
  (G:∀(A:bC) (outer:List Env) (s:Shared) (H:Hp) (vs:List V) (Q:VK) (E:XK),Room k (A.deeper (mE j (ja st) s.heap.objs.size f (.ref c)))->sp vs H Q E ->
   ∃t,PSs (uk CX0 P w K mg base N j (ja st) f (.ref c) A outer s H E).nox (jS st) t/\t { nx:=λ_ H'=>Q .non H',rt:=Q } (start N vs) H) :
  FnOk P w K mg base CX0 (k+1) f (bO x j (qf st) (jS st) (ja st) .none kV doc pm an (.ref c) U) ps sp:=by
 refine Vz l cd S len λA outer s H vs Q E b a=>?_
 obtain ⟨t,h,q⟩:=G A outer s H vs Q E b a
 exact ⟨t,h.nox,q⟩
theorem Cal.mkC {w:bx}{K:af}{mg:Str->Option ai}{base:Heap}{k:Nat}{x:Str}{ps:List Str}{st:Stmt}{f:Addr}{oc:ai}{od I:Option Addr}{U:Array (Option ai)}{kV doc pm j:ai}
  (X:K.In h) (G:h.Ns mainGlobals mg) (a:bb K mainGlobals x=some (some (.ref f)))
  (l:K.lookup f=some ⟨oc,od,.func (bO x x (qf st) (jS st) (ja st) .none kV doc pm I (.ref c) j),U⟩) (cd:d6 K (.ref c) x=true) (Y:cp K (.ref f)=true)
  (hb:∀(kV doc pm:ai) (I:Option Addr) (ab j:ai) (us:List ai),us.length=ps.length->d5 (bO x x (qf st) (jS st) (ja st) .none kV doc pm I ab j) ⟨us,[]⟩=pure (ps.zip us))
  (ok:FnOk P w K mg base CX0 k f (bO x x (qf st) (jS st) (ja st) .none kV doc pm I (.ref c) j) ps sp):Cal P w K mg base k x ps sp:=by
 have F:=vV (st:=st) l cd Y
 exact ⟨f,_,ok,F.binds hb,bG X G a,Y⟩
end L2
end
section
namespace L2
open PySem.W
noncomputable def Ite (K:af) (a:Addr):It :=
 ⟨λi H=>∃xs x,SqL K H a xs/\xs[i]? = some x,λi H v H'=>∃t x,v = .ref t/\H t=none/\H'=upd H t (.tup [.int i,x])/\∀xs,SqL K H a xs->xs[i]? = some x,λi H=>∃xs,SqL K H a xs/\xs.length<=i⟩
theorem Yd {K:af}{x1:Nat}{pos:Pos}(a e it:Addr) (hne:e≠it):Turn P w K (.Tuple es x1 pos) (Ite K a) [e,it] e (λi h=>∃old,IsEnum h e it i old/\h.IsListIter it a i) where
 mem:=by simp
 obj:=λi h ⟨old,st1,st2⟩ b hb=>by
  rcases List.mem_cons.mp hb with rfl | hb
  ·exact ⟨_,st1,λv z=>by
    have z':oH _=mQ v:=z
    cases z'⟩
  ·have e:b=it:=by simpa using hb
   subst e
   obtain ⟨o,e,c,d⟩:=st2
   exact ⟨o,e,λv z=>by rw [d] at z;cases z⟩
 keep:=λi h h' ⟨old,st1,st2⟩ k=>⟨old,k e (by simp) _ st1,st2.at λo z=>k it (by simp) o z⟩
 item:=by
  intro X hP hw hK hc i pins s σ H E I hf st hg
  subst hP hw hK
  obtain ⟨old,st1,st2⟩:=st
  obtain ⟨xs,x,hq,hx⟩:=hg
  obtain ⟨its,rv,p,hz⟩:=I.list hq
  obtain ⟨u,hu,ru⟩:=rv.get hx
  obtain ⟨f0,f1,f2,f3,f4,f5⟩:=hf e (by simp)
  obtain ⟨g0,g1,g2,g3,g4,g5⟩:=hf it (by simp)
  have hn:H s.heap.objs.size=none:=I.hok.fresh (ak _)
  refine wpAny_pyNext_enum_item st1 st2 p.isList (x:=u) (by simpa using hu) hne λh' o1 o2 o3 o4 o5=>⟨_,rfl,?_⟩
  refine wpAny_letOwnedTupleGo_enum o1 λh2 q1 sb=>?_
  have hel:e<s.heap.objs.size:=aw st1
  have kk:∀b o,b≠e->b≠it->s.heap.get? b=some o->h2.get? b=some o:=λb o n1 n2 z=>(sb.2 b n1).trans (o5 b o n1 n2 z)
  have et:h2.get? s.heap.objs.size=some { cls:=.type "tuple",data:=.seq #[.int i s.toks,u] }:=(sb.2 _ (dN hel)).trans o3
  have tne:∀b o,H b=some o->b≠e/\b≠it/\b≠s.heap.objs.size:=λb o q=>⟨λz=>(by rw [z,f0] at q;cases q),λz=>(by rw [z,g0] at q;cases q),λz=>(by rw [z,hn] at q;cases q)⟩
  have getF:∀{b:Addr} {o:HO},H b=some o->upd H s.heap.objs.size (.tup [.int i,x]) b=some o:=λ{b o} q=>by rw [j8 (tne b o q).2.2];exact q
  have I1:Inv X pins σ (upd H s.heap.objs.size (.tup [.int i,x])) { s with heap:=h2,toks:=s.toks+1 }:=by
   refine I.step (g':=s.gens) (d':=s.drawn) (ch:=[e,it]) (λb hb=>?_) (λb o _ _ hc z _=>kk b o ↥141 ↥141 z) (λb o _ _ hc z _=>⟨o.slots,kk b o ↥141 ↥141 z⟩)
    (λb o hc z n=>by rw [j8 (aF (aw z))];exact n) (λb o hc z=>⟨o,kk b o ↥141 ↥141 z⟩) (λ_ _ q=>getF q) (λ_ _ _ q=>getF q) (λb ps q=>⟨#[],by rw [getF q];simp⟩) (λm hm=>?_) (λb v q=>?_) I.bare
   ·rcases List.mem_cons.mp hb with rfl | hb
    ·exact ⟨f3,f1,f4,f5⟩
    ·have e:b=it:=by simpa using hb
     subst e
     exact ⟨g3,g1,g4,g5⟩
   ·obtain ⟨o,es,ep,ho,r⟩:=hm
    exact ⟨o,es,ep,kk _ o (cV f1) (cV g1) ho,r⟩
   ·by_cases hb:b=s.heap.objs.size
    ·subst hb
     rw [j9] at q;cases q
     exact ⟨by show 2<=sizeLine;decide,[.int i s.toks,u],.cons ⟨_,rfl⟩ (.cons ru .nil),⟨_,et,rfl,0,rfl⟩⟩
    ·rw [j8 hb] at q
     refine (I.hok b v q).stay (λc o hc z=>kk c o ?_ ?_ z) (λ_ z=>getF z) λ_ _ z=>getF z
     ·rcases hc with z | z
      ·rw [z];exact (tne b v q).1
      ·exact (tne c _ z).1
     ·rcases hc with z | z
      ·rw [z];exact (tne b v q).2.1
      ·exact (tne c _ z).2.1
  have st2':h2.IsListIter it a (i+1):=o2.at λo z=>(sb.2 it (cV hne)).trans z
  refine ⟨.ref s.heap.objs.size,_,I1,rfl,⟨_,x,rfl,hn,rfl,λys hy=>by rw [I.list_inj hy hq];exact hx⟩,⟨u,?_,st2'⟩,λb hb=>?_⟩
  ·have:((i+1:Nat):Int)=(i:Int)+1:=by push_cast;rfl
   rw [this]
   exact q1
  ·rcases List.mem_cons.mp hb with rfl | hb
   ·rw [j8 (aF hel)];exact f0
   ·have e:b=it:=by simpa using hb
    subst e
    obtain ⟨o,z,_⟩:=st2
    rw [j8 (aF (aw z))];exact g0
 done:=by
  intro X hP hw hK hc i pins s σ H E I hf st hg
  subst hP hw hK
  obtain ⟨old,st1,st2⟩:=st
  obtain ⟨xs,hq,hx⟩:=hg
  obtain ⟨its,rv,p,hz⟩:=I.list hq
  obtain ⟨g0,g1,g2,g3,g4,g5⟩:=hf it (by simp)
  have hl:=rv.length
  exact wpAny_pyNext_enum_end (I.ok.hd hc) st1 st2 p.isList ↥94 λh' eb=>⟨rfl,I.turned (t':=s.toks) ↥123 g0 g1 g3 g4 g5⟩
 self:=λ_ _ _ _ _ ⟨old,st1,_⟩ h=>rN st1 h
section
variable {X:Cx}
inductive iEnumI (K:af) (R:It->Hp->Prop) (vs:List V) (H1:Hp):Prop
 | mk (a:_) (_:vs=[.ref a]) (_:(∃xs,SqL K H1 a xs)/\R (Ite K a) H1)
noncomputable def E5 (K:af) (ta:TA):TI:=λσ H R=>ta σ H λa H1=>iEnumI K R a H1
theorem Y8 {j:Nat}{l:Expr}{p pos:Pos}(K:af) (Y:Gl X "enumerate") (U:X.mg "enumerate" = none) (ha:PA X [l] ta) (G:aU [l] X.env=[(false,eval l X.env)]:=by rfl) (hK:X.K=K:=by rfl) :
  PI X (.Tuple es j tpos) (.Call (.Name "enumerate" p) [l] [] pos) (E5 K ta):=by
 subst hK
 intro pins s σ H R I h
 refine Am (yG I Y U boot_enumerate (cx (thn ↥52 λv s1 ⟨t,H1,c,g,i⟩=>?_) G rfl))
 obtain ⟨a,e,⟨xs,n⟩,q⟩:=i
 subst e
 obtain ⟨u,rfl,f⟩:=vq g
 cases f
 obtain ⟨r,w,pl,y⟩:=c.list n
 refine call_enumerate_list pl.isList λh' d m x k=>?_
 refine rN d ?_
 have o:Inv X pins σ H1 { s1 with heap:=h',toks:=s1.toks }:=c.kept k
 refine ⟨_,[s1.heap.objs.size+1,s1.heap.objs.size],_,_,H1,rfl,o,Yd a _ _ (by exact Nat.succ_ne_self _),⟨.none,d,m⟩,λb hb=>?_,q⟩
 rcases List.mem_cons.mp hb with rfl | hb
 ·exact c.fpOk (fc _) (c.hok.fresh (fc _))
 ·have e:b=s1.heap.objs.size:=by simpa using hb
  subst e
  exact c.fpOk (ak _) (c.hok.fresh (ak _))
end
theorem YQ {K:af}{xs:List V}{g:TG}{ti:TT}{te:TE}{R:Hp->Prop}{σ:St}{H:Hp}(Pv:Nat->St->Hp->Prop) (h0:Pv 0 σ H) (hl:∀i σ H,i<=xs.length->Pv i σ H->SqL K H a xs)
  (hs:∀i x σ H t,xs[i]? = some x->Pv i σ H->H t=none->g (.ref t) σ (upd H t (.tup [.int i,x])) λj Y=>ti j Y λok G=>if ok=true then te j G λv H5=>∃ys,H5 acc=some (.lst ys)/\ys.length<sizeLine/\Pv (i+1) j ↥19 else Pv (i+1) j G)
  (hd:∀σ H,Pv xs.length σ H->R H) :
  ∃W:Nat->Nat->St->Hp->Prop,↥76/\∀i m I H',W i m I H' ->
   ((Ite K a).stop i H'/\R H')\/((Ite K a).go i H'/\∃U:St->Hp->Prop,↥36 /\
    ∀x H2,(Ite K a).yld i H' x H2->g x I H2 λj Y=>ti j Y λok G=>if ok=true then te j G λv H5=>∃ys,H5 acc=some (.lst ys)/\ys.length<sizeLine/\U j ↥19 else U j G):=by
 refine ⟨λi m σ H=>m=xs.length-i/\i<=xs.length/\Pv i σ H,⟨xs.length,by simp,aB _,h0⟩,?_⟩
 rintro i m σ H ⟨rfl,hi,p⟩
 have q:=hl i σ H hi p
 by_cases b:i<xs.length
 ·refine .inr ⟨⟨xs,xs[i],q,by simp [b]⟩,Pv (i+1),λI H' c=>⟨xs.length-(i+1),∅,rfl,b,c⟩,λv H' y=>?_⟩
  obtain ⟨t,x,rfl,d,rfl,y⟩:=y
  exact hs i x σ H t (y xs q) p d
 ·have e:i=xs.length:=∅
  subst e
  exact .inl ⟨⟨xs,q,ak _⟩,hd σ H p⟩
theorem VU {K:af}{xs:List V}{g:TG}{tb:TS}{D:Ends}{σ:St}{H:Hp}(Pv:Nat->St->Hp->Prop) (h0:Pv 0 σ H) (Y:∀i σ H,i<=xs.length->Pv i σ H->SqL K H a xs)
  (U:∀i x σ H t,xs[i]? = some x->Pv i σ H->H t=none->g (.ref t) σ (upd H t (.tup [.int i,x])) λj H2=>tb { D with nx:=Pv (i+1),ct:=Pv (i+1),bk:=D.nx } j H2) (hd:∀σ H,Pv xs.length σ H->D.nx σ H) :
  ∃W:Nat->Nat->St->Hp->Prop,↥76/\∀i m σ H,W i m σ H ->
   ((Ite K a).stop i H/\D.nx σ H)\/((Ite K a).go i H/\∃N:St->Hp->Prop,↥73/\∀x H',(Ite K a).yld i H x H'->g x σ H' λj H2=>tb { D with nx:=N,ct:=N,bk:=D.nx } j H2):=by
 refine ⟨λi m σ H=>m=xs.length-i/\i<=xs.length/\Pv i σ H,⟨xs.length,by simp,aB _,h0⟩,?_⟩
 rintro i m σ H ⟨rfl,hi,p⟩
 have q:=Y i σ H hi p
 by_cases b:i<xs.length
 ·refine .inr ⟨⟨xs,xs[i],q,by simp [b]⟩,Pv (i+1),λG H' c=>⟨xs.length-(i+1),∅,rfl,b,c⟩,λv H' y=>?_⟩
  obtain ⟨t,x,rfl,d,rfl,y⟩:=y
  exact U i x σ H t (y xs q) p d
 ·have e:i=xs.length:=∅
  subst e
  exact .inl ⟨⟨xs,q,ak _⟩,hd σ H p⟩
end L2
end
section
namespace L2
open PySem.W
theorem JN:∀(l:List Int),(∀n∈l,0<=n/\n<=2 ^ 20)->0<=l.sum/\l.sum<=2 ^ 20*l.length
 | [],_=>by simp
 | n::l,h=>by
  have b:=JN l λm a=>h m (aK _ a)
  have c:=h n aM
  rw [pH,bo]
  constructor
  ·omega
  ·push_cast
   omega
section
variable {X:Cx}
inductive cI_call_sum (K:af) (xs:List V) (H:Hp) (Q:VK):Prop
 | mk (p:Addr) (ns:List Int) (_:xs=[.ref p]) (_:SqL K H p ↥117) (_:ns.length<=1000) (_:(∀n∈ns,0<=n/\n<=2 ^ 20)) (_:Q (.int ns.sum) H)
theorem gq (K:af) (G:X.calm=true) (U:X.K=K:=by rfl):xf X (.builtin "sum") (cI_call_sum K):=by
 subst U
 intro pins s σ H xs L Q I r h
 obtain ⟨p,ns,rfl,y,N,k,q⟩:=h
 obtain ⟨u,rfl,x⟩:=vq r
 cases x
 obtain ⟨a,w,pl,M⟩:=I.list y
 have l:=xG w
 have C:=l.length
 have g:p≠s.heap.objs.size:=by
  obtain ⟨o,n,e,_⟩:=id pl
  exact aF (aw e)
 refine call_sum_walk (fL pl.isList ?_)
 refine ⟨s.heap.objs.size,_,_,_,_,_,λi=>ns.getD i 0,rfl,Walks.list (show (X.A.in1).handled=none from I.ok.hd G) s.heap.objs.size p g a.toArray,⟨⟨_,aE _ rfl,rfl,rfl⟩,pl.isList.at λo e=>ah _ e⟩,?_,?_,?_,?_⟩
 ·intro b hb'
  have f:p<s.heap.objs.size:=by
   obtain ⟨o,n,e,_⟩:=id pl
   exact aw e
  show b<(s.heap.push _).objs.size
  rw [cZ]
  rcases List.mem_cons.mp hb' with rfl | hb'
  ·exact iT _
  ·have e:b=p:=by simpa using hb'
   subst e
   exact bW f
 ·intro i v E
  have c:a[i]? = some v:=by simpa using E
  have hi:i<a.length:=(List.getElem?_eq_some_iff.mp c).1
  obtain ⟨t,e⟩:=JY l hi
  rw [e] at c
  refine ⟨t,?_⟩
  show v=mL (ns.getD i 0) t
  rw [ao,ae ∅]
  exact (bB c).symm
 ·intro j O
  have d:j<ns.length:=by
   have:a.toArray.size=a.length:=by simp
   omega
  constructor
  ·show InLong (ns.getD j 0)
   rw [ao,ae d]
   have:=k _ (cJ d)
   show -(2 ^ 63)<=ns[j]/\ns[j]<2 ^ 63
   omega
  ·rw [preSum_getD]
   have:=JN (ns.take (j+1)) λn B=>k n (eF B)
   have J:(ns.take (j+1)).length<=1000:=by rw [aY];omega
   show -(2 ^ 63)<=_/\_<2 ^ 63
   omega
 ·intro h' tk t' D
  rw [preSum_getD,fk ↥94]
  refine ⟨.int ns.sum,H,I.kept (t':=tk) λb o m=>D b o (by
   intro z
   have:=List.mem_singleton.mp z
   subst this
   exact absurd (aw m) (cX _)) (ah _ m),⟨t',rfl⟩,q⟩
inductive cI_call_tuple_ofL (K:af) (xs:List V) (H:Hp) (Q:VK):Prop
 | mk (p:_) (ys:_) (_:xs=[.ref p]) (_:SqL K H p ys) (_:New H (.tup ys) Q)
theorem zE (K:af) (h:X.K=K:=by rfl):xf X (.type "tuple") (cI_call_tuple_ofL K):=by
 subst h
 exact J7.weak λ_ _ _ ⟨p,ys,h1,h2,q⟩=>⟨p,ys,h1,.inl ⟨h2,q.at⟩⟩
end
end L2
end
section
namespace L2
open PySem.W
structure Nb2 (mg:Str->Option ai):Prop extends Nb mg where
 b_enumerate:mg "enumerate" = none
 b_sorted:mg "sorted" = none
 b_sum:mg "sum" = none
noncomputable abbrev Rch:=Int×List Int
noncomputable def tos (rs:List Rch):List Int:=rs.map (·.1)
noncomputable def ze (rs:List Rch) (r:Nat):Int:=(rs.getD r (-1,[])).1
noncomputable def y3 (rs:List Rch) (r:Nat):List Int:=(rs.getD r (-1,[])).2
noncomputable def xP (i:Nat) (t:Int):Bool:=if i=0 then decide (t = -1) else decide (0<=t/\t<i)
noncomputable def okR (i:Nat) (r:Rch):Bool:=xP i r.1 && decide (1<=(r.2.length:Int)/\(r.2.length:Int)<=12) && r.2.all λx=>decide (0<=x/\x<=99)
noncomputable def wf (rs:List Rch):Bool:=(aW rs.length).all λi=>okR i (rs.getD i (-1,[]))
noncomputable def xz (rs:List Rch):Prop:=∀i,i<rs.length->xP i (ze rs i)=true
noncomputable def jR (rs:List Rch) (h:Nat):Bool:=!decide ((h:Int)∈tos rs)
noncomputable def ju (rs:List Rch):List Nat:=(aW rs.length).filter (jR rs)
noncomputable def vM (rs:List Rch):Nat->Nat->List Int
 | 0,_=>[]
 | f+1,r=>(r:Int)::(if ze rs r<0 then [] else vM rs f (ze rs r).toNat)
noncomputable def qB (rs:List Rch) (r:Nat):List Int:=vM rs (r+1) r
noncomputable def jD (rs:List Rch) (j:List Int):Int:=(j.map λr=>((y3 rs r.toNat).length:Int)).sum
noncomputable def zR (rs:List Rch):Bool:=decide (1<=(rs.length:Int)/\(rs.length:Int)<=8) && (wf rs && (decide (↥97<=6) && (ju rs).all λh=>decide (jD rs (qB rs h)<=30)))
theorem kP {i:Nat}{t:Int}(h:xP i t=true):t<i/\(-1<=t)/\(t<0->i=0):=by
 unfold xP at h
 by_cases hi:i=0
 ·rw [if_pos hi] at h
  have:=of_decide_eq_true h
  omega
 ·rw [if_neg hi] at h
  have:=of_decide_eq_true h
  omega
theorem Yp {i:Nat}(h:okR i r=true):xP i r.1=true:=by
 unfold okR at h
 rw [bt,bt] at h
 exact h.1.1
theorem Qx (h:wf rs=true) {i:Nat}(j:rs[i]? = some r):okR i r=true:=by
 unfold wf at h
 rw [bP] at h
 have hi:=(List.getElem?_eq_some_iff.mp j).1
 have:=h i (List.mem_range.mpr hi)
 rw [ao,j] at this
 exact this
theorem qm (h:wf rs=true):xz rs:=λi hi=>by
 have:=Yp (Qx h (ae hi))
 unfold ze
 rw [ao,ae hi]
 exact this
theorem JQ {rs:List Rch}{i:Nat}(h:rs[i]? = some r):ze rs i=r.1:=by
 unfold ze
 rw [ao,h]
 rfl
theorem Qd {rs:List Rch}{i:Nat}(h:rs[i]? = some r):y3 rs i=r.2:=by
 unfold y3
 rw [ao,h]
 rfl
theorem xz.lt {rs:List Rch}(L:xz rs) {r:Nat}(j:r<rs.length):ze rs r<r:=(kP (L r j)).1
theorem JL (L:xz rs):∀(f g r:Nat),r<rs.length->r<f->r<g->vM rs f r=vM rs g r
 | 0,_,_,_,h,_=>∅
 | _+1,0,_,_,_,h=>∅
 | f+1,g+1,r,b,h1,h2=>by
  unfold vM
  by_cases a:ze rs r<0
  ·rw [if_pos a,if_pos a]
  ·rw [if_neg a,if_neg a]
   have c:=L.lt b
   rw [JL L f g (ze rs r).toNat ∅ ∅ ∅]
theorem zS (L:xz rs) {r:Nat}(j:r<rs.length):qB rs r=(r:Int)::(if ze rs r<0 then [] else qB rs (ze rs r).toNat):=by
 unfold qB
 rw [vM]
 by_cases a:ze rs r<0
 ·rw [if_pos a,if_pos a]
 ·rw [if_neg a,if_neg a]
  have b:=L.lt j
  rw [JL L r ((ze rs r).toNat+1) (ze rs r).toNat ∅ ∅ ∅]
theorem Ug (r:Nat):qB rs r≠[]:=by unfold qB vM;exact λz=>nomatch z
theorem uU (L:xz rs):∀(r:Nat),r<rs.length->(qB rs r).length<=r+1
 | r,b=>by
  rw [zS L b]
  by_cases a:ze rs r<0
  ·rw [if_pos a];simp
  ·rw [if_neg a]
   have c:=L.lt b
   have:=uU L (ze rs r).toNat ∅
   rw [bo]
   omega
 termination_by r=>r
 decreasing_by omega
theorem zq {rs:List Rch}(L:xz rs):∀(r:Nat),r<rs.length->∀x∈qB rs r,0<=x/\x<rs.length
 | r,b,x,hx=>by
  rw [zS L b] at hx
  rcases List.mem_cons.mp hx with rfl | hx
  ·omega
  ·by_cases a:ze rs r<0
   ·rw [if_pos a] at hx;cases hx
   ·rw [if_neg a] at hx
    have c:=L.lt b
    exact zq L (ze rs r).toNat ∅ x hx
 termination_by r=>r
 decreasing_by omega
theorem xD {h:Nat}(j:h∈ju rs):h<rs.length:=by
 have:=(List.mem_filter.mp j).1
 exact List.mem_range.mp this
theorem xk (rs:List Rch) (r:Int) (way:List Int):jD rs (r::way)=((y3 rs r.toNat).length:Int)+jD rs way:=by
 unfold jD
 rw [aQ,pH]
theorem Vp {α:Type}{p:α->Bool}{l j:List α}(h:l.Perm j):l.all p=j.all p:=by
 rw [fA,bP,bP]
 exact ⟨λz x a=>z x (h.mem_iff.mpr a),λz x a=>z x (h.mem_iff.mp a)⟩
noncomputable def qg (rs:List Rch) (ws:List (List Int)):Prop:=ws.Perm ((ju rs).map (qB rs))/\(ws.map de).Pairwise y4.kle
theorem qg.length {rs:List Rch}{ws:List (List Int)}(h:qg rs ws):ws.length=(ju rs).length:=by rw [h.1.length_eq,ag]
theorem qg.mem {rs:List Rch}{ws:List (List Int)}(h:qg rs ws) {w:List Int}(j:w∈ws):∃x∈ju rs,w=qB rs x:=by
 obtain ⟨x,a,e⟩:=List.mem_map.mp (h.1.mem_iff.mp j)
 exact ⟨x,a,e.symm⟩
theorem qg.all {rs:List Rch}{ws:List (List Int)}(h:qg rs ws):(ws.map λw=>decide (jD rs w<=30)).all (λb=>b)=(ju rs).all λx=>decide (jD rs (qB rs x)<=30):=by
 rw [iC,Vp h.1,iC]
 rfl
theorem xn {O:KeyOrd}:∀{l l':List O.α},l.Perm l'->l.Pairwise O.kle->l'.Pairwise O.kle->l=l'
 | [],l',h,_,_=>(List.nil_perm.mp h).symm
 | x::l,[],h,_,_=>by have:=h.length_eq;simp at this
 | x::l,y::l',h,h1,h2=>by
  have b:=(List.pairwise_cons.mp h1)
  have a:=(List.pairwise_cons.mp h2)
  have e:x=y:=by
   have d:x∈y::l':=h.mem_iff.mp aM
   have c:y∈x::l:=h.mem_iff.mpr aM
   rcases List.mem_cons.mp d with z | z
   ·exact z
   ·rcases List.mem_cons.mp c with z2 | z2
    ·exact z2.symm
    ·exact lI (b.1 y z2) (a.1 x z)
  subst e
  rw [xn (pW h) b.2 a.2]
theorem qg.unique {rs:List Rch}{ws:List (List Int)}(h:qg rs ws) (h':qg rs ws'):ws=ws':=by
 have p:(ws.map de).Perm (ws'.map de):=(h.1.trans h'.1.symm).map _
 have e:=xn (O:=y4) p h.2 h'.2
 have a:=congrArg (Ai de) e
 rw [cz,cz,show (de ∘ de:List Int->List Int)=id from funext λx=>fS x,oR,oR] at a
 exact a
theorem Xq (rs:List Rch) (t:Int) (j:List Int):tos (rs++[(t,j)])=tos rs++[t]:=by unfold tos;rw [aD];rfl
theorem ww {rs:List Rch}{x:Rch}{i:Nat}(h:i<rs.length):(rs++[x]).getD i d=rs.getD i d:=by
 rw [ao,ao,ee h]
theorem xB {rs:List Rch}{x:Rch}:(rs++[x]).getD rs.length d=x:=by
 rw [ao,dW (ak _),Nat.sub_self]
 rfl
theorem Jn (h:wf rs=true) (j:okR rs.length x=true):wf (rs++[x])=true:=by
 unfold wf at h ⊢
 rw [bP] at h ⊢
 intro i hi
 have b:i<rs.length+1:=by have:=List.mem_range.mp hi;rw [ar,bu] at this;exact this
 by_cases a:i<rs.length
 ·rw [ww a];exact h i (List.mem_range.mpr a)
 ·have e:i=rs.length:=∅
  subst e
  rw [xB];exact j
theorem gY {x:Rch}(L:xz rs):∀(f r:Nat),r<rs.length->vM (rs++[x]) f r=vM rs f r
 | 0,_,_=>rfl
 | f+1,r,b=>by
  have e:ze (rs++[x]) r=ze rs r:=by unfold ze;rw [ww b]
  unfold vM
  rw [e]
  by_cases a:ze rs r<0
  ·rw [if_pos a,if_pos a]
  ·rw [if_neg a,if_neg a,gY L f _ (by have:=L.lt b;omega)]
theorem vC {x:Rch}(L:xz rs) {r:Nat}(j:r<rs.length):qB (rs++[x]) r=qB rs r:=gY L _ r j
theorem zh {rs:List Rch}{x:Rch}:∀(j:List Int),(∀r∈j,0<=r/\r<rs.length)->jD (rs++[x]) j=jD rs j
 | [],_=>rfl
 | r::j,h=>by
  have b:=h r aM
  rw [xk,xk,zh j λy a=>h y (aK _ a)]
  congr 2
  unfold y3
  rw [ww ∅]
theorem Ze (L:xz rs) {t:Int}(h:t∈tos rs):t+1<rs.length:=by
 unfold tos at h
 obtain ⟨r,a,rfl⟩:=List.mem_map.mp h
 obtain ⟨i,hi,e⟩:=List.mem_iff_getElem.mp a
 have:=L.lt hi
 rw [JQ (ae hi),e] at this
 omega
theorem XZ {t:Int}{j:List Int}(L:xz rs) (G:0<=t) (h1:t<rs.length) :
  (ju (rs++[(t,j)])).length=if t∈tos rs then (ju rs).length+1 else (ju rs).length:=by
 unfold ju
 rw [ar,bu,dg,bK,ar]
 have p:(ij (jR (rs++[(t,j)])) [rs.length]).length=1:=by
  have:jR (rs++[(t,j)]) rs.length=true:=by
   unfold jR
   rw [Xq,decide_eq_false]
   ·rfl
   ·intro z
    rcases List.mem_append.mp z with z | z
    ·have:=Ze L z;omega
    ·have:(rs.length:Int)=t:=by simpa using z
     omega
  simp [this]
 rw [p]
 have o:∀h,jR (rs++[(t,j)]) h=(jR rs h && !decide ((h:Int)=t)):=λh=>by
  unfold jR
  rw [Xq]
  by_cases a:(h:Int)∈tos rs
  ·rw [decide_eq_true (cc _ a),decide_eq_true a];rfl
  ·rw [decide_eq_false a]
   by_cases b:(h:Int)=t
   ·rw [decide_eq_true (aJ _ (by simp [b])),decide_eq_true b];rfl
   ·rw [decide_eq_false (λz=>(List.mem_append.mp z).elim a λy=>b (by simpa using y)),decide_eq_false b];rfl
 have n:ij (jR (rs++[(t,j)])) (aW rs.length)=ij (λh:Nat=>!decide ((h:Int)=t)) (ij (jR rs) (aW rs.length)):=by
  rw [List.filter_filter]
  congr 1
  funext h
  rw [o,Bool.and_comm]
 rw [n]
 have c:(ij (jR rs) (aW rs.length)).Nodup:=List.Nodup.sublist List.filter_sublist List.nodup_range
 generalize k:ij (jR rs) (aW rs.length)=l at c
 have cnt:∀(l:List Nat),l.Nodup->(ij (λh:Nat=>!decide ((h:Int)=t)) l).length=if t.toNat∈l then l.length-1 else l.length:=by
  intro l
  induction l with
  | nil=>intro _;rfl
  | cons x l d =>
   intro c
   have g:=List.nodup_cons.mp c
   have d:=d g.2
   by_cases b:(x:Int)=t
   ·have f:x=t.toNat:=∅
    rw [cB (by simp [b]),d,if_neg (by rw [<- f];exact g.1),if_pos (by rw [f];exact aM)]
    simp
   ·have f:t.toNat≠x:=∅
    rw [cC (by simp [b]),bo,d]
    by_cases m:t.toNat∈l
    ·rw [if_pos m,if_pos (aK _ m),bo]
     have:0<l.length:=iD m
     omega
    ·rw [if_neg m,if_neg (λz=>(List.mem_cons.mp z).elim f m)]
     simp
 rw [cnt l c]
 have i:t.toNat∈l↔¬t∈tos rs:=by
  rw [<- k,List.mem_filter,List.mem_range]
  unfold jR
  have e:((t.toNat:Nat):Int)=t:=∅
  rw [e]
  constructor
  ·rintro ⟨_,z⟩ y
   rw [decide_eq_true y] at z
   cases z
  ·intro z
   exact ⟨∅,by rw [decide_eq_false z];rfl⟩
 by_cases m:t∈tos rs
 ·rw [if_pos m,if_neg (by rw [i];exact λz=>z m)]
 ·rw [if_neg m,if_pos (by rw [i];exact m)]
  have:0<l.length:=iD (i.mpr m)
  omega
structure Grown (rs:List Rch):Prop where
 ok:wf rs=true
 heads:(ju rs).length<=6
 deep:∀i,i<rs.length->jD rs (qB rs i)<=30
theorem Grown.snoc {rs:List Rch}{t:Int}{hs:List Int}(G:Grown rs) (U:0<=t) (h1:t<rs.length) (j:okR rs.length (t,hs)=true) (I:t∈tos rs->(ju rs).length<6) (Y:jD rs (qB rs t.toNat)+hs.length<=30):Grown (rs++[(t,hs)]):=by
 have L:=qm G.ok
 have b:=Jn G.ok j
 refine ⟨b,?_,λi hi=>?_⟩
 ·rw [XZ L U h1]
  split
  ·rename_i m;have:=I m;omega
  ·exact G.heads
 ·rw [ar,bu] at hi
  by_cases a:i<rs.length
  ·rw [vC L a,zh _ (zq L i a)]
   exact G.deep i a
  ·have e:i=rs.length:=∅
   subst e
   have f:=qm b
   have c:ze (rs++[(t,hs)]) rs.length=t:=by unfold ze;rw [xB]
   have d:y3 (rs++[(t,hs)]) rs.length=hs:=by unfold y3;rw [xB]
   rw [zS f (by rw [ar,bu];omega),xk,cP,d,c,if_neg ∅,vC L ∅,zh _ (zq L _ ∅)]
   omega
theorem Grown.good {rs:List Rch}(G:Grown rs) (h1:1<=rs.length) (j:rs.length<=8):zR rs=true:=by
 unfold zR
 rw [decide_eq_true (show 1<=(rs.length:Int)/\(rs.length:Int)<=8 by omega),G.ok,decide_eq_true (show ↥97<=6 by have:=G.heads;omega),eL,eL,eL,bP]
 intro h a
 exact decide_eq_true (G.deep h (xD a))
theorem Grown.deep_snoc {rs:List Rch}{t:Int}{hs:List Int}(G:Grown rs) (I:0<=t) (h1:t<rs.length) (j:okR rs.length (t,hs)=true):jD (rs++[(t,hs)]) (qB (rs++[(t,hs)]) rs.length)=jD rs (qB rs t.toNat)+hs.length:=by
 have L:=qm G.ok
 have c:=qm (Jn G.ok j)
 have a:ze (rs++[(t,hs)]) rs.length=t:=by unfold ze;rw [xB]
 have b:y3 (rs++[(t,hs)]) rs.length=hs:=by unfold y3;rw [xB]
 rw [zS c (by rw [ar,bu];omega),xk,cP,b,a,if_neg ∅,vC L ∅,zh _ (zq L _ ∅)]
 omega
noncomputable def jn (H H':Hp):Prop:=∀p xs,H p=some (.tup xs)->H' p=some (.tup xs)
theorem jn.same (s:jo H H'):jn H H':=λ_ _ h=>s _ _ h
theorem jn.trans (a:jn H H1) (b:jn H1 H2):jn H H2:=λp xs h=>b p xs (a p xs h)
theorem jn.ext {b:Addr}(e:Ext b H H') (h:∀xs,H b≠some (.tup xs)):jn H H':=λp xs q=>e _ _ q λz=>h xs (z ▸ q)
theorem jn.lst {b:Addr}{xs:List V}(e:Ext b H H') (h:H b=some (.lst xs)):jn H H':=.ext e λys z=>by rw [h] at z;cases z
theorem jn.new {b:Addr}(e:Ext b H H') (h:H b=none):jn H H':=.ext e λys z=>by rw [h] at z;cases z
theorem jn.tbl {b:Addr}(e:Ext b H H') (h:H b=some (.tbl ps)):jn H H':=.ext e λys z=>by rw [h] at z;cases z
noncomputable def JX (H:Hp) (v:V) (r:Rch):Prop:=∃p g,v=V.ref p/\H p=some (.tup [.int r.1,.ref g])/\H g=some (.tup (r.2.map V.int))
noncomputable def qd (H:Hp) (vs:List V) (rs:List Rch):Prop:=cW (JX H) vs rs
theorem JX.keep (k:jn H H') (h:JX H v r):JX H' v r:=by
 obtain ⟨p,g,e,h1,h2⟩:=h
 exact ⟨p,g,e,k _ _ h1,k _ _ h2⟩
theorem qd.keep {rs:List Rch}(k:jn H H') (h:qd H vs rs):qd H' vs rs:=Paired.mapP h λ_ _ z=>z.keep k
theorem qd.length {rs:List Rch}(h:qd H vs rs):vs.length=rs.length:=aP h
theorem qd.get {rs:List Rch}{i:Nat}(h:qd H vs rs) (e:vs[i]? = some v):∃r,rs[i]? = some r/\JX H v r:=Paired.get h e
theorem qd.at {rs:List Rch}{i:Nat}(h:qd H vs rs) (e:rs[i]? = some r):∃v,vs[i]? = some v/\JX H v r:=by
 have hi:i<vs.length:=by rw [h.length];exact (List.getElem?_eq_some_iff.mp e).1
 obtain ⟨b,a,q⟩:=h.get (ae hi)
 rw [e] at a
 cases a
 exact ⟨_,ae hi,q⟩
theorem qd.snoc {rs:List Rch}(h:qd H vs rs) (q:JX H v r):qd H (vs++[v]) (rs++[r]):=cE h q
noncomputable def yp (H:Hp) (vs:List V) (ws:List (List Int)):Prop:=cW (λv (w:List Int)=>∃a,v=V.ref a/\H a=some (.tup (w.map V.int))) vs ws
theorem yp.keep {ws:List (List Int)}(k:jn H H') (h:yp H vs ws):yp H' vs ws:=Paired.mapP h λ_ _ ⟨a,e,q⟩=>⟨a,e,k _ _ q⟩
theorem yp.length {ws:List (List Int)}(h:yp H vs ws):vs.length=ws.length:=aP h
theorem v0 (x:Int) (l:List Int):inV (.int x) (l.map V.int)=decide (x∈l):=by
 unfold inV
 induction l with
 | nil=>rfl
 | cons y l b =>
  rw [aQ,i6,b]
  by_cases e:x=y
  ·subst e
   rw [decide_eq_true (aM (a:=x))]
   simp [eqV]
  ·by_cases m:x∈l
   ·rw [decide_eq_true m,decide_eq_true (aK _ m),Bool.or_true]
   ·rw [decide_eq_false m,decide_eq_false (λz=>(List.mem_cons.mp z).elim e m),tT]
    simp [eqV]
    exact λz=>e z.symm
theorem yi (l:List Int):(l.map V.int).all uQ=true:=by
 rw [iC,bP]
 intro x _
 rfl
end L2
end
section
namespace L2
open PySem.W
section
variable {prog:Program}{w:bx}{A:bC}{E:ai->Shared->Prop}{s:Shared}
end
end L2
end
section
namespace L2
open PySem.W
section
variable {X:Cx}
end
end L2
end
section
namespace L2
open PySem.W
end L2
end
section
namespace L2
open PySem.W
section
variable {s:Shared}{A:bC}{prog:Program}{w:bx}{E:ai->Shared->Prop}
theorem GH {t:Addr}{k:Nat}{Q:ai->Shared->Prop}(q:s.heap.IsTupleIter it t k) (p:s.heap.IsTuple t its) (e:its[k]? = some v)
  (z:∀g,g.IsTupleIter it t (k+1)->fg it s.heap g->Q v { s with heap:=g }):ax (ay prog w) A (bH (.ref it)) Q E s:=by
 obtain ⟨i,b,f,a⟩:=id q;obtain ⟨h,c,_,j,d⟩:=p;unfold bH
 refine aa (dA (name:=aj "__next__") q.typeIs dX (dj dX q.typeIs lO ?_ (lC _)))
 show ax _ _ (tH (.ref it) 0 >>= _) _ _ s;refine aa (c7 b a (x:=.ref t) rfl ?_)
 show ax _ _ (if (b8 t == aV)=true then _ else _) _ _ s;rw [if_neg (show ¬((b8 t == aV)=true) from aq)]
 show ax _ _ (tH (.ref it) 1 >>= _) _ _ s;refine aa (c7 b a (x:=.int k 0) rfl ?_)
 show ax _ _ (seqItems? (.ref t) >>= _) _ _ s;refine aa (dr c d ?_)
 simp only [cP,e]
 refine aa (iE b a (by simp) (wpAny_pure ⟨v,rfl,wpAny_pure (z _ ⟨_,fH _ b (fI (fm a _)),(rO ..).trans f,by rw [fm a];simp [cv]⟩ (pz ..))⟩))
theorem GZ {t:Addr}{k:Nat}(j:A.handled=none) (q:s.heap.IsTupleIter it t k) (p:s.heap.IsTuple t its) (e:its[k]? = none)
  (z:∀g x,Heap.ExtBut it s.heap g->(∃o,g.get? x=some o/\o.cls = .type "StopIteration")->E (.ref x) { s with heap:=g }):ax (ay prog w) A (bH (.ref it)) Q E s:=by
 obtain ⟨i,b,n,c⟩:=id q;obtain ⟨h,d,_,l,f⟩:=p;unfold bH
 refine aa (dA (name:=aj "__next__") q.typeIs dX (dj dX q.typeIs lO ?_ (lC _)))
 show ax _ _ (tH (.ref it) 0 >>= _) _ _ s;refine aa (c7 b c (x:=.ref t) rfl ?_)
 show ax _ _ (if (b8 t == aV)=true then _ else _) _ _ s;rw [if_neg (show ¬((b8 t == aV)=true) from aq)]
 show ax _ _ (tH (.ref it) 1 >>= _) _ _ s;refine aa (c7 b c (x:=.int k 0) rfl ?_)
 show ax _ _ (seqItems? (.ref t) >>= _) _ _ s;refine aa (dr d f ?_)
 simp only [cP,e]
 refine aa (d9 (aa (iE b c (by simp) ?_)))
 show ax _ _ (newExc (.type "StopIteration") [] >>= _) _ _ _;refine aa ?_;simp only [newExc,newTuple]
 refine aa (cO ?_ (by size_fits));refine aa (m:=tI _ _) (oS (a:=aV) (by first | rfl | (simp only [tI];rfl)) ?_)
 refine cO ?_ (by size_fits);simp only [raiseNew];refine aa (wpAny_handled ?_);first | rw [j] | rw [show A.in1.handled=none from j]
 exact aa (wpAny_pure (wpAny_throw (z _ _ (((pz ..).extBut.push _).push _) ⟨_,aE _ rfl,rfl⟩)))
structure Feeds (prog:Program) (w:bx) (i l:Addr) (xs:Array ai) (S:Nat->Heap->Prop):Prop where
 keep:∀k h h',S k h->(∀o,h.get? i=some o->h'.get? i=some o)->(∀o,h.get? l=some o->h'.get? l=some o)->S k h'
 obj:∀k h,S k h->∃o,h.get? i=some o/\∀v,o.data≠.cell v
 item:∀(A:bC) (E:ai->Shared->Prop) (k:Nat) (x:ai) (s:Shared) (Q:ai->Shared->Prop),S k s.heap->xs[k]? = some x->(∀g,S (k+1) g->fg i s.heap g->Q x { s with heap:=g })->ax (ay prog w) A (bH (.ref i)) Q E s
 done:∀(A:bC) (E:ai->Shared->Prop) (k:Nat) (s:Shared) (Q:ai->Shared->Prop),A.handled=none->S k s.heap->xs[k]? = none->(∀g x,Heap.ExtBut i s.heap g->(∃o,g.get? x=some o/\o.cls = .type "StopIteration")->E (.ref x) { s with heap:=g })->ax (ay prog w) A (bH (.ref i)) Q E s
theorem Feeds.but {l b:Addr}{xs:Array ai}{S:Nat->Heap->Prop}(f:Feeds prog w i l xs S) {k:Nat}(q:S k h) (j:fg b h h') (I:i≠b) (G:l≠b):S k h':=f.keep k h h' q (λo e=>j.extBut _ _ I e) λo e=>j.extBut _ _ G e
theorem XW {i l:Addr}{xs:Array ai}(n:l≠i):Feeds prog w i l xs λk h=>h.IsListIter i l k/\h.IsList l xs where
 keep:=λk h h' q k1 k2=>⟨q.1.at λo e=>k1 o e,q.2.at λo e=>k2 o e⟩
 obj:=λk h q=>by obtain ⟨o,e,_,d⟩:=q.1;exact ⟨o,e,λv z=>by rw [d] at z;cases z⟩
 item:=λA E k x s Q q e z=>wpAny_nextOf_list_item q.1 q.2 e λg q1 sb=>z g ⟨q1,q.2.extBut sb.extBut n⟩ sb
 done:=λA E k s Q hh q e z=>wpAny_nextOf_list_end hh q.1 q.2 e z
theorem Yx {i l:Addr}{xs:Array ai}(n:l≠i):Feeds prog w i l xs λk h=>h.IsTupleIter i l k/\h.IsTuple l xs where
 keep:=λk h h' q k1 k2=>⟨q.1.at λo e=>k1 o e,let ⟨o,e,r⟩:=q.2;⟨o,k2 o e,r⟩⟩
 obj:=λk h q=>by obtain ⟨o,e,_,d⟩:=q.1;exact ⟨o,e,λv z=>by rw [d] at z;cases z⟩
 item:=λA E k x s Q q e z=>GH q.1 q.2 e λg q1 sb=>z g ⟨q1,q.2.extBut sb.extBut n⟩ sb
 done:=λA E k s Q hh q e z=>GZ hh q.1 q.2 e z
theorem Vn {TI TO:Addr}{k1 k2:Nat}{Q:ai->Shared->Prop}(D:oU z TI TO U I l1 l2) (G:Feeds prog w U l1 xs S1) (j:Feeds prog w I l2 ys S2)
  (Y:m9 s.heap z TI TO .none) (gI:eM s.heap TI (.ref U) (.ref I)) (gO:eM s.heap TO a b) (q1:S1 k1 s.heap) (q2:S2 k2 s.heap) (ex:xs[k1]? = some x) (ey:ys[k2]? = some y)
  (R:∀g,m9 g z TI TO (cv s.heap.objs.size)->eM g TO x y->S1 (k1+1) g->S2 (k2+1) g->eM g s.heap.objs.size x y->g.objs.size=s.heap.objs.size+1 ->
   (∀c o,c≠z->c≠TO->c≠U->c≠I->s.heap.get? c=some o->g.get? c=some o)->Q ↥18 { s with heap:=g }):ax (ay prog w) A (Builtin.«zip.__next__» ⟨[.ref z],[]⟩) ↥32 E s:=by
 show ax _ _ (tH (.ref z) 2 >>= _) _ _ _;refine aa (c7 Y rfl (x:=.bool false) rfl ?_)
 show ax _ _ (tH (.ref z) 3 >>= _) _ _ _;refine aa (c7 Y rfl (x:=.ref TI) rfl ?_)
 refine aa (dr gI rfl ?_);show ax _ _ (cQ (.ref z) >>= _) _ _ _
 refine aa ?_;unfold cQ;refine aa (c7 Y rfl (x:=.none) rfl ↥46);simp only [if_true]
 refine aa (d9 ?_);refine aa (c7 Y rfl (x:=.ref TO) rfl ?_)
 refine aa (dY Y (by simp) λh1 L p=>?_)
 replace L:m9 h1 z TI TO .ellipsis:=L
 refine aa ?_;simp only [mW,sP,lu,tJ]
 refine aa (aa (mJ ?_));show ax _ _ (bH (.ref U) >>= _) _ _ _
 refine aa (G.item _ _ k1 x _ _ (G.but q1 p D.i1z D.l1z) ex λh2 T m=>wpAny_pure ?_)
 have C:eM h2 TO a b:=m.extBut _ _ D.TOi1 (p.extBut _ _ D.TOz gO)
 refine aa (dr C rfl ?_);refine aa (iZ C λh3 h l=>?_)
 replace h:eM h3 TO x b:=h
 refine aa (oQ ↥46);refine aa (aa (mJ ?_));show ax _ _ (bH (.ref I) >>= _) _ _ _
 refine aa (j.item _ _ k2 y _ _ (j.but (j.but (j.but q2 p D.i2z D.l2z) m D.i12.symm D.l2i1) l D.TOi2.symm D.l2TO) ey λh4 P k=>wpAny_pure ?_)
 have B:eM h4 TO x b:=k.extBut _ _ D.TOi2 h
 refine aa (dr B rfl ?_);refine aa (iZ B λh5 d i=>?_)
 replace d:eM h5 TO x y:=d
 refine aa (oQ (wpAny_pure ↥46));refine aa (dr d rfl ?_);refine aa (iA ?_)
 have sz:h5.objs.size=s.heap.objs.size:=by rw [i.1,k.1,l.1,m.1,p.1]
 have Z:m9 h5 z TI TO .ellipsis:=i.extBut _ _ D.TOz.symm (k.extBut _ _ D.i2z.symm (l.extBut _ _ D.TOz.symm (m.extBut _ _ D.i1z.symm L)))
 have k5:∀c o,c≠z->c≠TO->c≠U->c≠I->s.heap.get? c=some o->h5.get? c=some o:=λc o r q J H e=>i.extBut _ _ q (k.extBut _ _ H (l.extBut _ _ q (m.extBut _ _ J (p.extBut _ _ r e))))
 have S:S1 (k1+1) h5:=G.but (G.but (G.but T l D.TOi1.symm D.l1TO) k D.i12 D.l1i2) i D.TOi1.symm D.l1TO
 have O:S2 (k2+1) h5:=j.but P i D.TOi2.symm D.l2TO
 have V:z<h5.objs.size:=aw Z
 show ax _ _ (i4 (.ref z) (.ref h5.objs.size) >>= _) _ _ _;refine aa ?_;unfold i4
 have g6:m9 (h5.push { cls:=.type "tuple",data:=.seq #[x,y] }) z TI TO .ellipsis:=ah _ Z
 refine aa (dY g6 (by simp) λh7 K N=>?_)
 replace K:m9 h7 z TI TO (cv h5.objs.size):=K
 refine dY K (by simp) λf t M=>?_
 replace t:m9 f z TI TO (cv h5.objs.size):=t
 have up:∀c o,c≠z->h5.get? c=some o->f.get? c=some o:=λc o n e=>M.extBut _ _ n (N.extBut _ _ n (ah _ e))
 have X:eM f h5.objs.size x y:=M.extBut _ _ (dN V) (N.extBut _ _ (dN V) (aE _ rfl))
 have u:f.objs.size=h5.objs.size+1:=by rw [M.1,N.1,cZ]
 rw [sz] at t X u
 refine wpAny_pure ⟨_,rfl,?_⟩;show Q (.ref h5.objs.size) _;rw [sz]
 exact R f t (up _ _ D.TOz d) (G.keep _ _ _ S (λo e=>up _ o D.i1z e) λo e=>up _ o D.l1z e) (j.keep _ _ _ O (λo e=>up _ o D.i2z e) λo e=>up _ o D.l2z e) X u λc o r q J H e=>up c o r (k5 c o r q J H e)
theorem Vl {TI TO:Addr}{k1 k2:Nat}(hh:A.handled=none) (D:oU z TI TO U I l1 l2) (f1:Feeds prog w U l1 xs S1) (Y:Feeds prog w I l2 ys S2)
  (G:m9 s.heap z TI TO .none) (gI:eM s.heap TI (.ref U) (.ref I)) (gO:eM s.heap TO a b) (q1:S1 k1 s.heap) (q2:S2 k2 s.heap) (ed:xs[k1]? = none\/ys[k2]? = none)
  (R:∀g e,(∀c o,c≠z->c≠TO->c≠U->c≠I->s.heap.get? c=some o->g.get? c=some o)->(∃o,g.get? e=some o/\o.cls = .type "StopIteration")->E (.ref e) { s with heap:=g }):ax (ay prog w) A (Builtin.«zip.__next__» ⟨[.ref z],[]⟩) Q E s:=by
 show ax _ _ (tH (.ref z) 2 >>= _) _ _ _;refine aa (c7 G rfl (x:=.bool false) rfl ?_)
 show ax _ _ (tH (.ref z) 3 >>= _) _ _ _;refine aa (c7 G rfl (x:=.ref TI) rfl ?_)
 refine aa (dr gI rfl ?_);show ax _ _ (cQ (.ref z) >>= _) _ _ _
 refine aa ?_;unfold cQ;refine aa (c7 G rfl (x:=.none) rfl ↥46);simp only [if_true]
 refine aa (d9 ?_);refine aa (c7 G rfl (x:=.ref TO) rfl ?_)
 refine aa (dY G (by simp) λh1 l i=>?_)
 replace l:m9 h1 z TI TO .ellipsis:=l
 refine aa ?_;simp only [mW,sP,lu,tJ]
 refine aa (aa (mJ ?_));show ax _ _ (bH (.ref U) >>= _) _ _ _
 cases ex:xs[k1]? with
 | none =>
  refine aa (f1.done _ _ k1 _ _ hh (f1.but q1 i D.i1z D.l1z) ex λh2 e f r=>?_)
  obtain ⟨n,d,k⟩:=r
  have v:m9 h2 z TI TO .ellipsis:=f _ _ D.i1z.symm l
  have ne:e≠z:=λq=>by subst q;rw [v] at d;cases d;simp at k
  exact dY v (by simp) λt _ h=>R t e (λc o j _ p _ q=>h.extBut _ _ j (f _ _ p (i.extBut _ _ j q))) ⟨n,h.extBut _ _ ne d,k⟩
 | some x =>
  have L:ys[k2]? = none:=by rcases ed with q | q;rw [ex] at q;cases q;exact q
  refine aa (f1.item _ _ k1 x _ _ (f1.but q1 i D.i1z D.l1z) ex λh2 M f=>wpAny_pure ?_)
  have m:eM h2 TO a b:=f.extBut _ _ D.TOi1 (i.extBut _ _ D.TOz gO)
  refine aa (dr m rfl ?_);refine aa (iZ m λt N h=>?_)
  refine aa (oQ ↥46);refine aa (aa (mJ ?_));show ax _ _ (bH (.ref I) >>= _) _ _ _
  refine aa (Y.done _ _ k2 _ _ hh (Y.but (Y.but (Y.but q2 i D.i2z D.l2z) f D.i12.symm D.l2i1) h D.TOi2.symm D.l2TO) L λK e B r=>?_)
  obtain ⟨n,d,k⟩:=r
  have u:m9 K z TI TO .ellipsis:=B _ _ D.i2z.symm (h.extBut _ _ D.TOz.symm (f.extBut _ _ D.i1z.symm l))
  have ne:e≠z:=λq=>by subst q;rw [u] at d;cases d;simp at k
  exact dY u (by simp) λJ _ y=>R J e (λc o j H p C q=>y.extBut _ _ j (B _ _ C (h.extBut _ _ H (f.extBut _ _ p (i.extBut _ _ j q))))) ⟨n,y.extBut _ _ ne d,k⟩
theorem GX {TI TO:Addr}{k1 k2:Nat}{Q:Option ai->Shared->Prop}(D:oU z TI TO G j l1 l2) (f1:Feeds prog w G l1 xs Y) (f2:Feeds prog w j l2 ys U)
  (I:m9 s.heap z TI TO .none) (gI:eM s.heap TI (.ref G) (.ref j)) (gO:eM s.heap TO a b) (q1:Y k1 s.heap) (q2:U k2 s.heap) (ex:xs[k1]? = some x) (ey:ys[k2]? = some y)
  (R:∀g,m9 g z TI TO (cv s.heap.objs.size)->eM g TO x y->Y (k1+1) g->U (k2+1) g->eM g s.heap.objs.size x y->g.objs.size=s.heap.objs.size+1 ->
   (∀c o,c≠z->c≠TO->c≠G->c≠j->s.heap.get? c=some o->g.get? c=some o)->Q (some ↥18) { s with heap:=g }):ax (ay prog w) A (lj (.ref z)) Q E s:=by
 have ty:s.TypeIs (.ref z) "zip":=⟨_,I,rfl⟩
 unfold lj;exact aa (mI (dA (name:=aj "__next__") ty lE (dj lE ty su
   (Vn D f1 f2 I gI gO q1 q2 ex ey λg l k i h f e d=>wpAny_pure (R g l k i h f e d)) (rP _))))
theorem GP {TI TO:Addr}{k1 k2:Nat}{Q:Option ai->Shared->Prop}(hh:A.handled=none) (D:oU z TI TO G j l1 l2) (f1:Feeds prog w G l1 xs S1) (f2:Feeds prog w j l2 ys S2)
  (I:m9 s.heap z TI TO .none) (gI:eM s.heap TI (.ref G) (.ref j)) (gO:eM s.heap TO a b) (Y:S1 k1 s.heap) (U:S2 k2 s.heap) (ed:xs[k1]? = none\/ys[k2]? = none)
  (R:∀g,(∀c o,c≠z->c≠TO->c≠G->c≠j->s.heap.get? c=some o->g.get? c=some o)->Q none { s with heap:=g }):ax (ay prog w) A (lj (.ref z)) Q E s:=by
 have ty:s.TypeIs (.ref z) "zip":=⟨_,I,rfl⟩
 unfold lj;refine aa (mI (dA (name:=aj "__next__") ty lE (dj lE ty su (Vl hh D f1 f2 I gI gO Y U ed λg e f h=>?_) (rP _))))
 obtain ⟨o,d,i⟩:=h
 exact aa (wpAny_isInstance (T:="StopIteration") (b:=true) ⟨o,d,i⟩ isSubtype_stop (wpAny_pure (R _ f)))
noncomputable def WK (t:Bool):String:=match t with | true=>"tuple_iterator" | false=>"list_iterator"
noncomputable def ItK (t:Bool) (h:Heap) (i l:Addr) (k:Nat):Prop:=match t with | true=>h.IsTupleIter i l k | false=>h.IsListIter i l k
noncomputable def IsK (t:Bool) (h:Heap) (l:Addr) (xs:Array ai):Prop:=match t with | true=>h.IsTuple l xs | false=>h.IsList l xs
noncomputable def SqK (t:Bool) (K:af) (H:Hp) (a:Addr) (xs:List V):Prop:=match t with | true=>SqT K H a xs | false=>SqL K H a xs
theorem IsK.at {t:Bool}{h':Heap}{l:Addr}{xs:Array ai}(q:IsK t h l xs) (k:∀o,h.get? l=some o->h'.get? l=some o):IsK t h' l xs:=by
 cases t with
 | true=>obtain ⟨o,e,r⟩:=q;exact ⟨o,k o e,r⟩
 | false=>exact Heap.IsList.at q λo e=>k o e
theorem IsK.lt {t:Bool}{l:Addr}{xs:Array ai}(q:IsK t h l xs):l<h.objs.size:=by
 cases t with
 | true=>obtain ⟨o,e,r⟩:=q;exact aw e
 | false=>obtain ⟨o,e,r⟩:=q;exact aw e
theorem ItK.at {t:Bool}{h':Heap}{l:Addr}{k:Nat}(q:ItK t h i l k) (f:∀o,h.get? i=some o->h'.get? i=some o):ItK t h' i l k:=by
 cases t with
 | true=>obtain ⟨o,e,r⟩:=q;exact ⟨o,f o e,r⟩
 | false=>obtain ⟨o,e,r⟩:=q;exact ⟨o,f o e,r⟩
theorem ItK.obj {t:Bool}{l:Addr}{k:Nat}(q:ItK t h i l k):∃o,h.get? i=some o/\∀v,o.data≠.cell v:=by
 cases t with
 | true=>obtain ⟨o,e,_,d⟩:=q;exact ⟨o,e,λv z=>by rw [d] at z;cases z⟩
 | false=>obtain ⟨o,e,_,d⟩:=q;exact ⟨o,e,λv z=>by rw [d] at z;cases z⟩
theorem ItK.of {t:Bool}{h:Heap}{i l:Addr}(e:h.get? i=some { cls:=.type (WK t),data:=.fields #[.ref l,.int 0 0] }):ItK t h i l 0:=by
 cases t with
 | true=>exact ⟨_,e,rfl,rfl⟩
 | false=>exact ⟨_,e,rfl,rfl⟩
theorem JS {t:Bool}{i l:Addr}{xs:Array ai}(n:l≠i):Feeds prog w i l xs λk h=>ItK t h i l k/\IsK t h l xs:=by
 cases t with
 | true=>exact Yx n
 | false=>exact XW n
theorem ZP {t:Bool}{Q:ai->Shared->Prop}(q:IsK t s.heap l xs) (z:Q ↥18 { s with heap:=s.heap.push { cls:=.type (WK t),data:=.fields #[.ref l,.int 0 0] } }):ax (ay prog w) A (oG (.ref l)) Q E s:=by
 cases t with
 | true=>exact pN q z
 | false=>exact fL q z
noncomputable abbrev zp1 (t:Bool) (h:Heap) (l:Addr):Heap:=h.push { cls:=.type (WK t),data:=.fields #[.ref l,.int 0 0] }
noncomputable abbrev zp2 (t u:Bool) (h:Heap) (l m:Addr):Heap:=zp1 u (zp1 t h l) m
noncomputable abbrev zp3 (t u:Bool) (h:Heap) (l m:Addr):Heap:=(zp2 t u h l m).push { cls:=.type "tuple",data:=.seq #[.ref h.objs.size,.ref (zp1 t h l).objs.size] }
noncomputable abbrev zp4 (t u:Bool) (h:Heap) (l m:Addr):Heap:=(zp3 t u h l m).push { cls:=.type "tuple",data:=.seq #[.none,.none] }
noncomputable abbrev zp5 (t u:Bool) (h:Heap) (l m:Addr):Heap:=(zp4 t u h l m).push { cls:=.type "zip",data:=.fields #[.none,.bool false,.bool false,.ref (zp2 t u h l m).objs.size,.ref (zp3 t u h l m).objs.size] }
theorem Yq (t u:Bool) (l m:Addr) (xs ys:Array ai) :
  Meets (Builtin.«zip.__new__» ⟨[.type "zip",.ref l,.ref m],[]⟩) (λ_ R s=>IsK t s.heap l xs/\IsK u s.heap m ys/\R (.ok (.ret (.ref (zp4 t u s.heap l m).objs.size))) { s with heap:=zp5 t u s.heap l m }) :=
 .of_wp λprog w A R b h=>by
  obtain ⟨a,g,d,tk,os⟩:=b;obtain ⟨f,c,h⟩:=h;have j:=sub_zip
  have i:IsK t (Shared.heap ⟨a,g,d,tk,os⟩) l xs:=f
  have p2:IsK u (Shared.heap ⟨zp1 t a l,g,d,tk,os⟩) m ys:=c.at λo e=>ah _ e
  wp_walk using ZP i,ZP p2
  exact ⟨_,rfl,h⟩
theorem Gu {t u:Bool}{Q:ai->Shared->Prop}(I:IsK t s.heap l xs) (G:IsK u s.heap m ys)
  (R:∀g,m9 g (s.heap.objs.size+4) (s.heap.objs.size+2) (s.heap.objs.size+3) .none->eM g (s.heap.objs.size+2) ↥18 (.ref ↥12) ->
   eM g (s.heap.objs.size+3) .none .none->ItK t g s.heap.objs.size l 0->ItK u g ↥12 m 0->(∀c o,s.heap.get? c=some o->g.get? c=some o)->Q (.ref (s.heap.objs.size+4)) { s with heap:=g }) :
  ax (ay prog w) A (call (.type "zip") [.ref l,.ref m]) Q E s:=by
 refine callType_new F.called_zip ⋯ (F.typeCall_zip_2 _ _) (F.newCall_zip_2 _ _) (λobj=>F.args_object_init_3 obj _ _) F.entry_zip_new (Yq t u l m xs ys) ⟨I,G,?_⟩
 have d:(zp1 t s.heap l).objs.size=s.heap.objs.size+1:=cZ ..
 have b:(zp2 t u s.heap l m).objs.size=s.heap.objs.size+2:=by rw [cZ,d]
 have a:(zp3 t u s.heap l m).objs.size=s.heap.objs.size+3:=by rw [cZ,b]
 have f:(zp4 t u s.heap l m).objs.size=s.heap.objs.size+4:=by rw [cZ,a]
 have e:(zp5 t u s.heap l m).get? (zp4 t u s.heap l m).objs.size=some _:=aE _ rfl
 have h:(zp5 t u s.heap l m).get? (zp3 t u s.heap l m).objs.size=some _:=ah _ (aE _ rfl)
 have i:(zp5 t u s.heap l m).get? (zp2 t u s.heap l m).objs.size=some _:=ah _ (ah _ (aE _ rfl))
 have j:(zp5 t u s.heap l m).get? (zp1 t s.heap l).objs.size=some _:=ah _ (ah _ (ah _ (aE _ rfl)))
 have k:(zp5 t u s.heap l m).get? s.heap.objs.size=some _:=ah _ (ah _ (ah _ (ah _ (aE _ rfl))))
 show _/\_
 rw [b,a,f] at e;rw [d,b] at i;rw [a] at h;rw [d] at j;rw [f]
 exact ⟨⟨_,e,rfl⟩,R _ e i h (.of k) (.of j) λc o x=>ah _ (ah _ (ah _ (ah _ (ah _ x))))⟩
end
section
variable {X:Cx}{s:Shared}{σ:St}{H:Hp}{pins:List (Addr×Obj)}
theorem V1 {t:Bool}(I:Inv X pins σ H s) (h:SqK t X.K H a xs):∃its:List ai,jG xs its/\IsK t s.heap a its.toArray/\xs.length<=sizeLine:=by
 cases t with
 | true=>exact I.tuple h
 | false=>obtain ⟨its,r,p,z⟩:=I.list h;exact ⟨its,r,p.isList,z⟩
theorem XG {t:Bool}(I:Inv X pins σ H s) (h:SqK t X.K H a xs) (h':SqK t X.K H a ys):xs=ys:=by
 cases t with
 | true=>exact I.tuple_inj h h'
 | false=>exact I.list_inj h h'
end
noncomputable def Vu (K:af) (t u:Bool) (G j:Addr):It :=
 ⟨λi H=>∃xs ys x y,SqK t K H G xs/\SqK u K H j ys/\xs[i]? = some x/\ys[i]? = some y,λi H v H'=>∃p x y,v = .ref p/\H p=none/\H'=upd H p (.tup [x,y])/\(∀xs,SqK t K H G xs->xs[i]? = some x)/\∀ys,SqK u K H j ys->ys[i]? = some y,
  λi H=>∃xs ys,SqK t K H G xs/\SqK u K H j ys/\(xs.length<=i\/ys.length<=i)⟩
theorem Yl {t u:Bool}{K:af}{x1:Nat}{pos:Pos}{TI TO:Addr}(D:oU z TI TO i1 i2 l1 l2) :
  Turn P w K (.Tuple es x1 pos) (Vu K t u l1 l2) [z,TI,TO,i1,i2] z (λi h=>∃a b,m9 h z TI TO .none/\eM h TI (.ref i1) (.ref i2)/\eM h TO a b/\ItK t h i1 l1 i/\ItK u h i2 l2 i) where
 mem:=by simp
 obj:=λi h ⟨a,b,t1,t2,t3,t4,t5⟩ c hc=>by
  simp only [eN,fY,or_false] at hc
  rcases hc with rfl | rfl | rfl | rfl | rfl
  ·exact ⟨_,t1,λv e=>by have e':oH _=mQ v:=e;cases e'⟩
  ·exact ⟨_,t2,λv e=>by have e':Data.seq _ _=mQ v:=e;cases e'⟩
  ·exact ⟨_,t3,λv e=>by have e':Data.seq _ _=mQ v:=e;cases e'⟩
  ·exact t4.obj
  ·exact t5.obj
 keep:=λi h h' ⟨a,b,t1,t2,t3,t4,t5⟩ k=>⟨a,b,k z (by simp) _ t1,k TI (by simp) _ t2,k TO (by simp) _ t3,t4.at λo e=>k i1 (by simp) o e,t5.at λo e=>k i2 (by simp) o e⟩
 item:=by
  intro X hP hw hK hc i pins s σ H E I hf st hg
  subst hP hw hK
  obtain ⟨a,b,t1,t2,t3,t4,t5⟩:=st
  obtain ⟨xs,ys,x,y,hq1,hq2,hx,hy⟩:=hg
  obtain ⟨its1,rv1,p1,_⟩:=V1 I hq1
  obtain ⟨its2,rv2,p2,_⟩:=V1 I hq2
  obtain ⟨u1,hu1,ru1⟩:=rv1.get hx
  obtain ⟨u2,hu2,ru2⟩:=rv2.get hy
  have hn:H s.heap.objs.size=none:=I.hok.fresh (ak _)
  have fz:=hf z (by simp)
  have fTO:=hf TO (by simp)
  have f1:=hf i1 (by simp)
  have f2:=hf i2 (by simp)
  refine GX D (JS D.l1i1) (JS D.l2i2) t1 t2 t3 ⟨t4,p1⟩ ⟨t5,p2⟩ (x:=u1) (y:=u2) (by simpa using hu1) (by simpa using hu2) λh' o1 o2 o3 o4 o5 o6 o7=>⟨_,rfl,?_⟩
  obtain ⟨o3,_⟩:=o3;obtain ⟨o4,_⟩:=o4
  refine wpAny_letOwnedTupleGo_zip o1 λh2 q1 sb=>?_
  have hzl:z<s.heap.objs.size:=aw t1
  have kk:∀c o,c≠z->c≠TO->c≠i1->c≠i2->s.heap.get? c=some o->h2.get? c=some o:=λc o n1 n2 n3 n4 e=>(sb.2 c n1).trans (o7 c o n1 n2 n3 n4 e)
  have et:h2.get? s.heap.objs.size=some { cls:=.type "tuple",data:=.seq #[u1,u2] }:=(sb.2 _ (dN hzl)).trans o5
  have tne:∀c o,H c=some o->c≠z/\c≠TO/\c≠i1/\c≠i2/\c≠s.heap.objs.size:=λc o q=>⟨λe=>(by rw [e,fz.1] at q;cases q),λe=>(by rw [e,fTO.1] at q;cases q),λe=>(by rw [e,f1.1] at q;cases q),λe=>(by rw [e,f2.1] at q;cases q),λe=>(by rw [e,hn] at q;cases q)⟩
  have getF:∀{c:Addr} {o:HO},H c=some o->upd H s.heap.objs.size (.tup [x,y]) c=some o:=λ{c o} q=>by rw [j8 (tne c o q).2.2.2.2];exact q
  have nin:∀{c:Addr},c∉[z,TO,i1,i2]->c≠z/\c≠TO/\c≠i1/\c≠i2:=λ{c} h=>by simpa using h
  have I1:Inv X pins σ (upd H s.heap.objs.size (.tup [x,y])) { s with heap:=h2,toks:=s.toks }:=by
   refine I.step (g':=s.gens) (d':=s.drawn) (ch:=[z,TO,i1,i2]) (λc hc'=>?_) (λc o _ _ hc' e _=>kk c o (nin hc').1 (nin hc').2.1 (nin hc').2.2.1 (nin hc').2.2.2 e) (λc o _ _ hc' e _=>⟨o.slots,kk c o (nin hc').1 (nin hc').2.1 (nin hc').2.2.1 (nin hc').2.2.2 e⟩)
    (λc o _ e n=>by rw [j8 (aF (aw e))];exact n) (λc o hc' e=>⟨o,kk c o (nin hc').1 (nin hc').2.1 (nin hc').2.2.1 (nin hc').2.2.2 e⟩) (λ_ _ q=>getF q) (λ_ _ _ q=>getF q) (λc ps q=>⟨#[],by rw [getF q];simp⟩) (λm hm=>?_) (λc v q=>?_) I.bare
   ·simp only [eN,fY,or_false] at hc'
    rcases hc' with rfl | rfl | rfl | rfl
    ·exact ⟨fz.2.2.2.1,fz.2.1,fz.2.2.2.2.1,fz.2.2.2.2.2⟩
    ·exact ⟨fTO.2.2.2.1,fTO.2.1,fTO.2.2.2.2.1,fTO.2.2.2.2.2⟩
    ·exact ⟨f1.2.2.2.1,f1.2.1,f1.2.2.2.2.1,f1.2.2.2.2.2⟩
    ·exact ⟨f2.2.2.2.1,f2.2.1,f2.2.2.2.2.1,f2.2.2.2.2.2⟩
   ·obtain ⟨o,es,ep,ho,r⟩:=hm
    exact ⟨o,es,ep,kk _ o (cV fz.2.1) (cV fTO.2.1) (cV f1.2.1) (cV f2.2.1) ho,r⟩
   ·by_cases hb:c=s.heap.objs.size
    ·subst hb
     rw [j9] at q;cases q
     exact ⟨by show 2<=sizeLine;decide,[u1,u2],.cons ru1 (.cons ru2 .nil),⟨_,et,rfl,0,rfl⟩⟩
    ·rw [j8 hb] at q
     have hh:=tne c v q
     refine (I.hok c v q).stay (λc' o hc' e=>?_) (λ_ e=>getF e) λ_ _ e=>getF e
     have hh':c'≠z/\c'≠TO/\c'≠i1/\c'≠i2:=by
      rcases hc' with e | e
      ·rw [e];exact ⟨hh.1,hh.2.1,hh.2.2.1,hh.2.2.2.1⟩
      ·have:=tne c' _ e;exact ⟨this.1,this.2.1,this.2.2.1,this.2.2.2.1⟩
     exact kk c' o hh'.1 hh'.2.1 hh'.2.2.1 hh'.2.2.2 e
  have s2:∀{c:Addr} {o:Obj},c≠z->h'.get? c=some o->h2.get? c=some o:=λn e=>(sb.2 _ n).trans e
  refine ⟨.ref s.heap.objs.size,_,I1,rfl,⟨_,x,y,rfl,hn,rfl,λys' hy'=>by rw [XG I hy' hq1];exact hx,λys' hy'=>by rw [XG I hy' hq2];exact hy⟩,⟨u1,u2,q1,kk _ _ D.TIz D.TITO D.TIi1 D.TIi2 t2,s2 D.TOz o2,o3.at λo e=>s2 D.i1z e,o4.at λo e=>s2 D.i2z e⟩,λc hc'=>?_⟩
  have hl:c<s.heap.objs.size:=by
   simp only [eN,fY,or_false] at hc'
   rcases hc' with rfl | rfl | rfl | rfl | rfl
   ·exact hzl
   ·exact aw t2
   ·exact aw t3
   ·obtain ⟨o,e,_⟩:=t4.obj;exact aw e
   ·obtain ⟨o,e,_⟩:=t5.obj;exact aw e
  rw [j8 (aF hl)]
  exact (hf c hc').1
 done:=by
  intro X hP hw hK hc i pins s σ H E I hf st hg
  subst hP hw hK
  obtain ⟨a,b,t1,t2,t3,t4,t5⟩:=st
  obtain ⟨xs,ys,hq1,hq2,hend⟩:=hg
  obtain ⟨its1,rv1,p1,_⟩:=V1 I hq1
  obtain ⟨its2,rv2,p2,_⟩:=V1 I hq2
  have e1:=rv1.length
  have e2:=rv2.length
  have fz:=hf z (by simp)
  have fTO:=hf TO (by simp)
  have f1:=hf i1 (by simp)
  have f2:=hf i2 (by simp)
  have tne:∀c o,H c=some o->c≠z/\c≠TO/\c≠i1/\c≠i2:=λc o q=>⟨λe=>(by rw [e,fz.1] at q;cases q),λe=>(by rw [e,fTO.1] at q;cases q),λe=>(by rw [e,f1.1] at q;cases q),λe=>(by rw [e,f2.1] at q;cases q)⟩
  have nin:∀{c:Addr},c∉[z,TO,i1,i2]->c≠z/\c≠TO/\c≠i1/\c≠i2:=λ{c} h=>by simpa using h
  refine GP (I.ok.hd hc) D (JS D.l1i1) (JS D.l2i2) t1 t2 t3 ⟨t4,p1⟩ ⟨t5,p2⟩ ?_ λh' kk=>⟨rfl,?_⟩
  ·rcases hend with h | h
   ·exact .inl ↥94
   ·exact .inr ↥94
  ·refine I.step (g':=s.gens) (d':=s.drawn) (t':=s.toks) (ch:=[z,TO,i1,i2]) (λc hc'=>?_) (λc o _ _ hc' e _=>kk c o (nin hc').1 (nin hc').2.1 (nin hc').2.2.1 (nin hc').2.2.2 e) (λc o _ _ hc' e _=>⟨o.slots,kk c o (nin hc').1 (nin hc').2.1 (nin hc').2.2.1 (nin hc').2.2.2 e⟩)
    (λ_ _ _ _ n=>n) (λc o hc' e=>⟨o,kk c o (nin hc').1 (nin hc').2.1 (nin hc').2.2.1 (nin hc').2.2.2 e⟩) (λ_ _ q=>q) (λ_ _ _ q=>q) (λc ps q=>⟨#[],by rw [q];simp⟩) (λm hm=>?_) (λc v q=>?_) I.bare
   ·simp only [eN,fY,or_false] at hc'
    rcases hc' with rfl | rfl | rfl | rfl
    ·exact ⟨fz.2.2.2.1,fz.2.1,fz.2.2.2.2.1,fz.2.2.2.2.2⟩
    ·exact ⟨fTO.2.2.2.1,fTO.2.1,fTO.2.2.2.2.1,fTO.2.2.2.2.2⟩
    ·exact ⟨f1.2.2.2.1,f1.2.1,f1.2.2.2.2.1,f1.2.2.2.2.2⟩
    ·exact ⟨f2.2.2.2.1,f2.2.1,f2.2.2.2.2.1,f2.2.2.2.2.2⟩
   ·obtain ⟨o,es,ep,ho,r⟩:=hm
    exact ⟨o,es,ep,kk _ o (cV fz.2.1) (cV fTO.2.1) (cV f1.2.1) (cV f2.2.1) ho,r⟩
   ·have hh:=tne c v q
    refine (I.hok c v q).stay (λc' o hc' e=>?_) (λ_ e=>e) λ_ _ e=>e
    have hh':c'≠z/\c'≠TO/\c'≠i1/\c'≠i2:=by
     rcases hc' with e | e
     ·rw [e];exact hh
     ·exact tne c' _ e
    exact kk c' o hh'.1 hh'.2.1 hh'.2.2.1 hh'.2.2.2 e
 self:=λ_ _ _ _ _ ⟨_,_,t1,_⟩ h=>sv t1 h
section
variable {X:Cx}
inductive iZipSI (K:af) (R:It->Hp->Prop) (vs:List V) (H1:Hp):Prop
 | mk (t:_) (u:_) (a:_) (b:_) (_:vs=[.ref a,.ref b]) (_:(∃xs,SqK t K H1 a xs)) (_:(∃ys,SqK u K H1 b ys)) (_:R (Vu K t u a b) H1)
noncomputable def Ec (K:af) (ta:TA):TI:=λσ H R=>ta σ H λa H1=>iZipSI K R a H1
theorem Ut {U:Nat}{l r:Expr}{p pos:Pos}(K:af) (hg:Gl X "zip") (hm:X.mg "zip" = none) (ha:PA X [l,r] ta) (Y:aU [l,r] X.env=(false,eval l X.env)::aU [r] X.env:=by rfl) (G:(dh pos (aU [r] X.env)).any (·.1)=false:=by rfl) (hK:X.K=K:=by rfl) :
  PI X (.Tuple es U tpos) (.Call (.Name "zip" p) [l,r] [] pos) (Ec K ta):=by
 subst hK
 intro pins s σ H R I h
 refine Am (yG I hg hm boot_zip (cx (thn ↥52 λP s1 ⟨O,H1,d,A,B⟩=>?_) Y G))
 obtain ⟨t,S,a,b,e,⟨xs,J⟩,⟨ys,n⟩,q⟩:=B
 subst e
 obtain ⟨u,Q,rfl,z,j⟩:=ZW A
 cases z
 cases j
 obtain ⟨N,T,pl,_⟩:=V1 d J
 obtain ⟨E,M,f,_⟩:=V1 d n
 refine Gu pl f λh' i y x w v C=>?_
 refine sv i ?_
 have L:Inv X pins σ H1 { s1 with heap:=h',toks:=s1.toks }:=d.kept C
 have m:a<s1.heap.objs.size:=pl.lt
 have k:b<s1.heap.objs.size:=f.lt
 have D:oU (s1.heap.objs.size+4) (s1.heap.objs.size+2) (s1.heap.objs.size+3) s1.heap.objs.size (s1.heap.objs.size+1) a b:=by
  constructor <;> first | exact aF m | exact aF k | exact aF (aX m (eU _ _)) | exact aF (aX k (eU _ _)) | (apply aF;omega) | (apply dN;omega)
 refine ⟨_,[s1.heap.objs.size+4,s1.heap.objs.size+2,s1.heap.objs.size+3,s1.heap.objs.size,s1.heap.objs.size+1],_,_,H1,rfl,L,Yl D,⟨.none,.none,i,y,x,w,v⟩,λc o=>?_,q⟩
 have g:s1.heap.objs.size<=c:=by
  simp only [eN,fY,or_false] at o
  rcases o with rfl | rfl | rfl | rfl | rfl
  ·exact eU _ _
  ·exact eU _ _
  ·exact eU _ _
  ·exact ak _
  ·exact eU _ _
 exact d.fpOk g (d.hok.fresh g)
end
theorem Jy {K:af}{t0 u0:Bool}{xs ys:List V}{g:TG}{ti:TT}{te:TE}{R:Hp->Prop}{σ:St}{H:Hp}(ab:xs.length=ys.length) (Pv:Nat->St->Hp->Prop) (h0:Pv 0 σ H) (hl:∀i σ H,i<=xs.length->Pv i σ H->SqK t0 K H a xs/\SqK u0 K H b ys)
  (hs:∀i x y σ H t,xs[i]? = some x->ys[i]? = some y->Pv i σ H->H t=none->g (.ref t) σ (upd H t (.tup [x,y])) λj Y=>ti j Y λok G=>if ok=true then te j G λv H5=>∃zs,H5 acc=some (.lst zs)/\zs.length<sizeLine/\Pv (i+1) j (upd H5 acc (.lst (zs++[v]))) else Pv (i+1) j G)
  (hd:∀σ H,Pv xs.length σ H->R H) :
  ∃W:Nat->Nat->St->Hp->Prop,↥76/\∀i m I H',W i m I H' ->
   ((Vu K t0 u0 a b).stop i H'/\R H')\/((Vu K t0 u0 a b).go i H'/\∃U:St->Hp->Prop,↥36 /\
    ∀x H2,(Vu K t0 u0 a b).yld i H' x H2->g x I H2 λj Y=>ti j Y λok G=>if ok=true then te j G λv H5=>∃zs,H5 acc=some (.lst zs)/\zs.length<sizeLine/\U j (upd H5 acc (.lst (zs++[v]))) else U j G):=by
 refine ⟨λi m σ H=>m=xs.length-i/\i<=xs.length/\Pv i σ H,⟨xs.length,by simp,aB _,h0⟩,?_⟩
 rintro i m σ H ⟨rfl,hi,p⟩
 obtain ⟨q,d⟩:=hl i σ H hi p
 by_cases c:i<xs.length
 ·refine .inr ⟨⟨xs,ys,xs[i],ys[i]'∅,q,d,by simp [c],ae ∅⟩,Pv (i+1),λI H' l=>⟨xs.length-(i+1),∅,rfl,c,l⟩,λv H' y=>?_⟩
  obtain ⟨t,x,k,rfl,n,rfl,h,f⟩:=y
  exact hs i x k σ H t (h xs q) (f ys d) p n
 ·have e:i=xs.length:=∅
  subst e
  exact .inl ⟨⟨xs,ys,q,d,.inl (ak _)⟩,hd σ H p⟩
end L2
end
section
namespace L2
open PySem.W
mutual
inductive Dat (H:Hp):V->PyData->Prop
 | non:Dat H .non .none
 | bl (b:Bool):Dat H (.bl b) (.bool b)
 | int (i:Int):Dat H (.int i) (.int i)
 | str (x:Str):Dat H (.str x) (.str x)
 | tup {p:Addr} {vs:List V} {ds:List PyData}:H p=some (.tup vs)->DatL H vs ds->Dat H (.ref p) (.tuple ds)
 | lst {p:Addr} {vs:List V} {ds:List PyData}:H p=some (.lst vs)->DatL H vs ds->Dat H (.ref p) (.list ds)
inductive DatL (H:Hp):List V->List PyData->Prop
 | nil:DatL H [] []
 | cons {v:V} {vs:List V} {d:PyData} {ds:List PyData}:Dat H v d->DatL H vs ds->DatL H (v::vs) (d::ds)
end
mutual
theorem Dat.ext (x:Vw M H H') (j:∀c,M c->∀vs,H c≠some (.lst vs)/\H c≠some (.tup vs)):∀{v:V}{d:PyData},Dat H v d->Dat H' v d
 | _,_,.non=>.non
 | _,_,.bl b=>.bl b
 | _,_,.int i=>.int i
 | _,_,.str y=>.str y
 | _,_,.tup h r=>.tup (x _ _ h λz=>(j _ z _).2 h) (DatL.ext x j r)
 | _,_,.lst h r=>.lst (x _ _ h λz=>(j _ z _).1 h) (DatL.ext x j r)
theorem DatL.ext (x:Vw M H H') (j:∀c,M c->∀vs,H c≠some (.lst vs)/\H c≠some (.tup vs)):∀{vs:List V}{ds:List PyData},DatL H vs ds->DatL H' vs ds
 | _,_,.nil=>.nil
 | _,_,.cons h r=>.cons (Dat.ext x j h) (DatL.ext x j r)
end
theorem Dat.same {d:PyData}(s:jo H H') (h:Dat H v d):Dat H' v d:=h.ext (M:=λ_=>False) (Vw.of_same s) (λ_ z=>z.elim)
mutual
theorem Dat.rep {M:Addr->Prop}(j:∀p,¬M p) {K:af}:∀{v:V}{d:PyData},Dat H v d->Rep M K H v d
 | _,_,.non=>.non
 | _,_,.bl b=>.bl b
 | _,_,.int i=>.int i
 | _,_,.str y=>.str y
 | _,_,.tup h r=>.tup (j _) (SqT.of h) (DatL.rep j r)
 | _,_,.lst h r=>.lst (j _) (SqL.of h) (DatL.rep j r)
theorem DatL.rep {M:Addr->Prop}(j:∀p,¬M p) {K:af}:∀{vs:List V}{ds:List PyData},DatL H vs ds->RepL M K H vs ds
 | _,_,.nil=>.nil
 | _,_,.cons h r=>.cons (Dat.rep j h) (DatL.rep j r)
end
theorem DatL.length :∀{vs:List V}{ds:List PyData},DatL H vs ds->vs.length=ds.length
 | _,_,.nil=>rfl
 | _,_,.cons _ r=>congrArg Nat.succ r.length
theorem DatL.get :∀{vs:List V}{ds:List PyData}{i:Nat}{v:V},DatL H vs ds->vs[i]? = some v->∃d,ds[i]? = some d/\Dat H v d
 | _,_,_,_,.nil,e=>by simp at e
 | _,_,0,_,.cons r _,e=>by simp at e;subst e;exact ⟨_,rfl,r⟩
 | _,_,i+1,v,.cons _ t,e=>by
  obtain ⟨d,h1,h2⟩:=DatL.get (i:=i) (v:=v) t (by simpa using e)
  exact ⟨d,by simpa using h1,h2⟩
theorem DatL.ints :∀(ns:List Int),DatL H ↥117 (ns.map nO)
 | []=>.nil
 | n::ns=>.cons (.int n) (DatL.ints ns)
noncomputable def xI:Nat->PyData->Bool
 | 0,_=>false
 | _+1,.none=>true
 | _+1,.bool _=>true
 | _+1,.int _=>true
 | _+1,.str _=>true
 | n+1,.list ds=>decide (ds.length<=1000) && ds.all (xI n)
 | n+1,.tuple ds=>decide (ds.length<=1000) && ds.all (xI n)
 | _+1,_=>false
inductive spAl (n:Nat) (vs:List V) (H:Hp) (Q:VK) (z_3:XK):Prop
 | mk (x y:V) (d:PyData) (_:vs=[x,y]) (_:Dat H x d) (_:Dat H y d) (_:xI n d=true) (_:∀H',jo H H'->Q (.bl true) H')
theorem Z5 {n:Nat}{ns:List Int}:(ns.map nO).all (xI (n+1))=true:=by
 rw [bP]
 intro x a
 obtain ⟨i,_,rfl⟩:=List.mem_map.mp a
 rfl
theorem YO {n:Nat}{ds:List PyData}(h:ds.length<=1000) (a:ds.all (xI n)=true):xI (n+1) (.list ds)=true:=by
 show (decide (ds.length<=1000) && ds.all (xI n))=true
 rw [decide_eq_true h,a];rfl
theorem Xi (K:af):bI K (.type "str") (.type "bool")=some false:=(qo K _ _).trans ↥31
theorem Zw (K:af):bI K (.type "str") (.type "int")=some false:=(qo K _ _).trans ↥31
theorem gm (K:af):bI K (.type "str") (.type "str")=some true:=(qo K _ _).trans ↥31
end L2
end
section
namespace L2
open PySem.W
noncomputable def Two (vs:Array ai) (a0:ai):Prop:=vs[0]? = some a0/\vs[2]? = some .none
theorem Two.put {a0:ai}(t:Two vs a0) (x:ai):Two (vs.setIfInBounds 1 x) a0 :=
 ⟨by rw [iN ⋯];exact t.1,by rw [iN ⋯];exact t.2⟩
theorem Vx (o:Obj) (f:Array ai->Array ai):(o.mapFields f).dict=o.dict:=by
 obtain ⟨c,d,a,b⟩:=o
 cases a <;> rfl
noncomputable def OnT (h B:Heap) (e:Addr) (cls a0 fl:ai):Prop :=
 ∃a b T c ts,h.get? e=some a/\(a.cls=cls/\Two b a0/\a.dict=none)/\a.data = .fields b/\b[1]? = some (.ref T)/\B.get? T=none/\T≠e/\h.get? T=some c/\c.data = .fields ts/\ts[3]? = some fl
section
variable {M:Model}{A:bC}{E:ai->Shared->Prop}{s:Shared}{B:Heap}{env:Env}{outer l:List Env}{L e:Addr}{cls a0 fl:ai}{Q:Unit->Shared->Prop}
theorem gj (st:B.StaysIn s.heap) (G:s.heap.FunFrames B l) (on:OnT s.heap B e cls a0 fl)
  (k:∀g,B.StaysIn g->g.FunFrames B l->OnT g B e cls a0 .none->(∀b o,s.heap.get? b=some o->(∀vs,o.data≠.fields vs)->g.get? b=some o)->Q () { s with heap:=g }):ax M A (setFlight (.ref e) none) Q E s:=by
 obtain ⟨t,vs,T,w,ts,p,u,gd,r,gB,n,i,h,v⟩:=on
 have j:3<ts.size:=(Array.getElem?_eq_some_iff.mp v).1
 have d:∀b,b≠T->(s.heap.update T (iW (·.setIfInBounds 3 ((none:Option Addr).elim aV λf=>cv f)))).get? b=s.heap.get? b:=λb a =>
  d8 _ _ a.symm
 have m:∀{b o},s.heap.get? b=some o->(∀vs,o.data≠.fields vs)->b≠T:=λa c q=>by
  rw [q,i] at a
  cases a
  exact c ts h
 unfold setFlight
 refine aa (c7 p gd r ?_)
 rw [if_pos (by simp)]
 refine iE i h j (k _ (λb o a=>?_) (G.of_keeps λb o a c=>⟨o,?_,rfl⟩) ?_ λb o a c=>?_)
 ·rw [d b λq=>by rw [q,gB] at a;cases a]
  exact st b o a
 ·rw [d b (m a c)]
  exact a
 ·refine ⟨t,vs,T,_,_,?_,u,gd,r,gB,n,fH _ i (fI (fm h _)),fm h _,by simp [j]⟩
  rw [d e n.symm]
  exact p
 ·rw [d b (m a c)]
  exact a
theorem XS {nx:Bool}(fr:A.frames=some (env::outer)) (fu:s.heap.FunFrames B (env::outer)) (hL:env.frame=some L) (ge:s.heap.get? e=some oe) (st:B.StaysIn s.heap) (ne:B.get? e=none) (gd:oe.data = .fields vs)
  (z1:1<vs.size) (tw:Two vs a0) (dn:oe.dict=none) (k:∀g,B.StaysIn g->g.FunFrames B (env::outer)->OnT g B e oe.cls a0 (cv L)->s.heap.UpToSlots g->Q () { s with heap:=g }) :
  ax M A (do let a <- frameOf env;let pl <- entryPlaceOf L nx;let b <- pA head a .none (cv L) .none pl;setField (.ref e) 1 b) Q E s:=by
 have out:e∉(env::outer).filterMap (·.frame):=λq=>by
  obtain ⟨_,o,ho,hn⟩:=fu.mem q
  rw [ge] at ho
  cases ho
  exact hn vs gd
 refine aa (wpAny_frameOf_fun fr fu hL λg1 so=>?_)
 refine aa (wpAny_entryPlaceOf λpl sh=>?_)
 unfold pA newFields
 refine aa (cO ?_ (sh.sizeOk5 _ _ _ _ _))
 have e1:g1.get? e=some oe:=(so.2.1 e out).trans ge
 have s1:B.StaysIn g1:=λb o hb=>(so.2.1 b λq=>by rw [(fu.mem q).1] at hb;cases hb).trans (st b o hb)
 generalize hnew:({ cls:=.type "traceback",dict:=none,data:=.fields ([head,.ref L,.none,cv L,.none]++(if pl.isEmpty then dU 6 aV else pl)).toArray }:Obj)=new
 have nd:new.data = .fields ([head,.ref L,.none,cv L,.none]++(if pl.isEmpty then dU 6 aV else pl)).toArray:=by rw [<- hnew]
 have e2:=ah (h:=g1) new e1
 refine iE e2 gd z1 ?_
 have Te:g1.objs.size≠e:=dN (aw e1)
 have d3:=fm gd ↥119
 have e3:=fH (iW ↥119) e2 (fI d3)
 have T3:((g1.push new).update e (iW ↥119)).get? g1.objs.size=some new:=by
  rw [d8 _ _ Te.symm]
  exact aE g1 (fI nd)
 have kp:∀{b o},b≠e->g1.get? b=some o->((g1.push new).update e (iW ↥119)).get? b=some o:=λhb q=>by
  rw [d8 _ _ hb.symm]
  exact ah _ q
 have nr:∀{b o},s.heap.get? b=some o->(∀vs,o.data≠.fields vs)->b≠e:=λhb hn q=>by
  rw [q,ge] at hb
  cases hb
  exact hn vs gd
 refine k _ (λb o hb=>kp (λq=>by rw [q,ne] at hb;cases hb) (s1 b o hb)) (fu.of_keeps λb o hb hn=>?_) ?_ λb o hb hn=>?_
 ·obtain ⟨sl,hs⟩:=so.2.2 b o hb
  exact ⟨_,kp (nr hb hn) hs,rfl⟩
 ·exact ⟨_,_,g1.objs.size,_,_,e3,⟨rO _ _,tw.put _,(Vx _ _).trans dn⟩,d3,by simp [z1],s1.fresh,Te,T3,nd,by first | (simp;done) | (rcases sh with rfl | ⟨_,_,_,_,_,_,_,rfl⟩ <;> simp)⟩
 ·obtain ⟨sl,hs⟩:=so.2.2 b o hb
  exact ⟨sl,kp (nr hb hn) hs⟩
theorem U9 (fr:A.frames=some (env::outer)) (G:s.heap.FunFrames B (env::outer)) (j:env.frame=some L) (on:OnT s.heap B e cls a0 .none) (st:B.StaysIn s.heap) (ne:B.get? e=none)
  (k:∀g,B.StaysIn g->g.FunFrames B (env::outer)->OnT g B e cls a0 (cv L)->s.heap.UpToSlots g->Q () { s with heap:=g }):ax M A (lR (.ref e) env) Q E s:=by
 obtain ⟨oe,vs,T,x,ts,l,⟨rfl,p,w⟩,gd,n,gB,v,f,h,m⟩:=on
 unfold lR
 simp only [j]
 refine aa (c7 l gd n ?_)
 rw [if_pos (by simp)]
 refine aa (c7 f h m ?_)
 rw [if_neg (by simp [cv])]
 refine aa (iE f h (Array.getElem?_eq_some_iff.mp m).1 ?_)
 have d:∀b,b≠T->(s.heap.update T (iW (·.setIfInBounds 3 aV))).get? b=s.heap.get? b:=λb a =>
  d8 _ _ a.symm
 have i:∀{b o},s.heap.get? b=some o->(∀vs,o.data≠.fields vs)->b≠T:=λa c q=>by
  rw [q,f] at a
  cases a
  exact c ts h
 refine XS (oe:=oe) (vs:=vs) (a0:=a0) fr (G.of_keeps λb o a c=>⟨o,?_,rfl⟩) j ?_ (λb o a=>?_) ne gd (Array.getElem?_eq_some_iff.mp n).1 p w λg k1 u t r=>k g k1 u t λb o a c=>?_
 ·exact (d b (i a c)).trans a
 ·exact (d e v.symm).trans l
 ·exact (d b λq=>by rw [q,gB] at a;cases a).trans (st b o a)
 ·exact r b o ((d b (i a c)).trans a) c
theorem VJ (fr:A.frames=some (env::outer)) (I:s.heap.FunFrames B (env::outer)) (G:env.frame=some L) (on:OnT s.heap B e cls a0 .none) (st:B.StaysIn s.heap) (ne:B.get? e=none)
  (k:∀g,B.StaysIn g->g.FunFrames B (env::outer)->OnT g B e cls a0 .none->s.heap.UpToSlots g->Q () { s with heap:=g }):ax M A (pe env (.ref e)) Q E s:=by
 unfold pe
 refine aa (U9 fr I G on st ne λg k1 j i h=>?_)
 exact gj (s:={ s with heap:=g }) k1 j i λn f d c a=>k n f d c (h.trans λb o m l=>⟨o.slots,a b o m l⟩)
theorem Zu (fr:A.frames=some (env::outer)) (G:env.frame=some L) (st:B.StaysIn h) (I:h.FunFrames B (env::outer)) (j:oV h s.heap e cls U)
  (k:∀g t,B.StaysIn g->g.FunFrames B (env::outer)->OnT g B e cls (.ref t) .none->B.get? e=none->s.heap.UpToSlots g->Q () { s with heap:=g }):ax M A (pe env (.ref e)) Q E s:=by
 obtain ⟨t,c,v,w⟩:=j.there
 have new:B.get? e=none:=by
  cases q:B.get? e with
  | none=>rfl
  | some o =>
   have:=st e o q
   rw [j.new] at this
   cases this
 unfold pe lR
 simp only [G]
 refine aa (aa (c7 (x:=.none) c rfl rfl ?_))
 rw [if_neg ⋯]
 refine XS (a0:=.ref t) fr (I.of_keeps λb o a _=>⟨o,j.keeps b o a,rfl⟩) G c (λb o a=>j.keeps b o (st b o a)) new rfl (by simp) ⟨rfl,rfl⟩ rfl λg k1 p n m=>?_
 exact gj (s:={ s with heap:=g }) k1 p n λu l i f d=>k u t l i f new (m.trans λb o a r=>⟨o.slots,d b o a r⟩)
end
end L2
end
section
namespace L2
open PySem.W
structure Fly (g:Heap) (H:Hp) (h:Heap) (a:Addr) (cls fl:ai):Prop where
 na:g.get? a=none
 ha:H a=none
 ob:∃oe vs T oT ts a0,h.get? a=some oe/\(oe.cls=cls/\Two vs a0/\oe.dict=none)/\oe.data = .fields vs/\vs[1]? = some (.ref T)/\g.get? T=none/\H T=none/\T≠a/\h.get? T=some oT/\oT.data = .fields ts/\ts[3]? = some fl
theorem Fly.mono {g':Heap}{a:Addr}(f:Fly g H h a cls fl) (l:∀b o,g'.get? b=some o->∃o',g.get? b=some o'):Fly g' H h a cls fl:=by
 have no:∀{b},g.get? b=none->g'.get? b=none:=λ{b} e=>by
  cases q:g'.get? b with
  | none=>rfl
  | some o =>
   obtain ⟨o',c⟩:=l b o q
   rw [e] at c
   cases c
 obtain ⟨i,d,T,j,ts,a0,h1,h2,p,n,m,k⟩:=f.ob
 exact ⟨no f.na,f.ha,i,d,T,j,ts,a0,h1,h2,p,n,no m,k⟩
noncomputable def CX1 (P:Program) (w:bx):CXT:=λouter H s E e s' =>
 ∃a cls H',e = .ref a/\s'.os=s.os/\iU s'.gens/\Un (frs outer) [] H H' s.heap s'.heap/\HOk P w H' s'.heap/\Fly s.heap H' s'.heap a cls .none/\E cls none H'
noncomputable def yh (X:Cx) (pins:List (Addr×Obj)) (σ:St) (H':Hp) (s1:Shared) (a:Addr) (cls fl:ai):Prop :=
 ∃s H,Inv X pins σ H s/\s1.os=s.os/\iU s1.gens/\Un (frs X.stack) [] H H' s.heap s1.heap/\HOk X.prog X.w H' s1.heap/\Fly s.heap H' s1.heap a cls fl
theorem kC (x:qq P w H h a o):∃ob,h.get? a=some ob:=by
 cases o with
 | lst xs=>obtain ⟨_,_,_,_,e⟩:=x;exact ⟨_,e⟩
 | tup xs=>obtain ⟨_,_,_,ob,e,_⟩:=x;exact ⟨_,e⟩
 | dK kvs=>obtain ⟨_,_,_,_,ob,_,_,e,_⟩:=x;exact ⟨_,e⟩
 | dT kvs=>obtain ⟨_,_,_,_,ob,_,_,e,_⟩:=x;exact ⟨_,e⟩
 | set S n=>obtain ⟨ob,_,_,_,e,_⟩:=x;exact ⟨_,e⟩
 | ins C dx fs=>obtain ⟨_,_,_,e,_⟩:=x;exact ⟨_,e⟩
 | own y=>exact x
 | xd fs=>obtain ⟨_,⟨_,_,_,e,_⟩,_⟩:=x;exact ⟨_,e⟩
 | rng lo hi=>obtain ⟨_,_,_,e⟩:=x;exact ⟨_,e⟩
 | frz ob u=>obtain ⟨e,_⟩:=x;exact ⟨_,e⟩
 | tbl ps=>exact ⟨_,(show h.get? a=some _ from x)⟩
 | met f y=>exact ⟨_,(show h.get? a=some _ from x)⟩
 | ext φ=>obtain ⟨_,e,_⟩:=x;exact e
section
variable {X:Cx}{pins:List (Addr×Obj)}{σ:St}{H H':Hp}{s s1:Shared}{a:Addr}{cls fl:ai}
theorem yh.inv (f:yh X pins σ H' s1 a cls fl):Inv X pins σ H' s1:=by
 obtain ⟨s,H,I,os,b,u,ok,c⟩:=f
 exact I.call' os u ok b (λb z=>absurd z (by simp))
theorem yh.fly (j:X.ex=[]) (f:yh X pins σ H' s1 a cls fl):Fly X.s₀.heap H' s1.heap a cls fl:=by
 obtain ⟨s,H,I,os,b,u,ok,d⟩:=f
 exact d.mono λc o e=>I.base.there c o e (by rw [j];exact λz=>by cases z)
theorem yh.under (f:yh X pins σ H' s1 a cls .none):∃B a0,(B.StaysIn s1.heap/\B.get? a=none/\s1.heap.FunFrames B X.stack/\OnT s1.heap B a cls a0 .none) /\
  ∀h2 fl2,B.StaysIn h2->s1.heap.UpToSlots h2->OnT h2 B a cls a0 fl2->yh X pins σ H' { s1 with heap:=h2 } a cls fl2:=by
 have Y:=f.inv
 obtain ⟨s,H,I,os,b,u,ok,t⟩:=f
 obtain ⟨oe,vs,T,oT,ts,a0,h1,h2,R,h4,Q,P,h7,O,N,S⟩:=t.ob
 have fr:=Y.stack
 have fs:∀b∈frs X.stack,b≠a/\b≠T:=λb hb=>by
  obtain ⟨_,o,i,x⟩:=fr.mem hb
  refine ⟨λz=>?_,λz=>?_⟩
  ·rw [z,h1] at i;cases i;exact x _ R
  ·rw [z,O] at i;cases i;exact x _ N
 have K:∀env∈X.stack,∀c,env.frame=some c->c∈a::T::frs X.stack:=λenv he c l=>aK _ (aK _ (List.mem_filterMap.mpr ⟨env,he,l⟩))
 have j:∀{c o},s1.heap.get? c=some o->c≠a->c≠T->c∉frs X.stack->(hideAll s1.heap (a::T::frs X.stack)).get? c=some o:=λe n1 n2 n3 =>
  hideAll_get _ e (by simp only [eN,not_or];exact ⟨n1,n2,n3⟩)
 refine ⟨hideAll s1.heap (a::T::frs X.stack),a0,⟨λb o q=>of_hideAll _ q,hideAll_none _ (.head _),tK fr K,oe,vs,T,oT,ts,h1,h2,R,h4,hideAll_none _ (.tail _ (.head _)),h7,O,N,S⟩,λhp fl2 st up Z=>?_⟩
 have lo:∀{c o},s.heap.get? c=some o->c≠a/\c≠T:=λ{c o} e=>⟨λz=>(by rw [z,t.na] at e;cases e),λz=>(by rw [z,Q] at e;cases e)⟩
 have k:∀{c o},s1.heap.get? c=some o->c∈frs X.stack->∀vs,o.data≠.fields vs:=λe l=>by
  obtain ⟨_,o',i,x⟩:=fr.mem l
  rw [e] at i;cases i;exact x
 refine ⟨s,H,I,os,b,⟨λc o e n J h=>?_,λc o e n g h=>?_,λc o e n h=>u.free c o e n h,λc o e h=>?_,u.tups,u.frzs,u.tbls⟩,λc o l=>?_,?_⟩
 ·exact st _ _ (j (u.keep c o e n J h) (lo e).1 (lo e).2 J)
 ·obtain ⟨sl,m⟩:=u.slot c o e n g h
  obtain ⟨p,v⟩:=up c _ m (k m g)
  exact ⟨p,v⟩
 ·obtain ⟨o1,m⟩:=u.there c o e h
  by_cases g:c∈frs X.stack
  ·obtain ⟨p,v⟩:=up c _ m (k m g)
   exact ⟨_,v⟩
  ·exact ⟨o1,st _ _ (j m (lo e).1 (lo e).2 g)⟩
 ·refine (ok c o l).stay (λc' o' L e=>?_) (λ_ e=>e) λ_ _ e=>e
  have r:H' c'≠none:=by
   rcases L with z | z
   ·rw [z,l];exact λy=>by cases y
   ·rw [z];exact λy=>by cases y
  exact st _ _ (j e (λz=>r (by rw [z];exact t.ha)) (λz=>r (by rw [z];exact P)) λz=>r (Y.stkFree _ z))
 ·obtain ⟨E,C,d,G,D,g1,g2,g3,g4,g5,V,A,U,g9⟩:=Z
  have key:d=T\/s1.heap.get? d=none:=by
   cases q:s1.heap.get? d with
   | none=>exact .inr rfl
   | some o =>
    refine .inl ?_
    by_cases M:d=T
    ·exact M
    ·by_cases g:d∈frs X.stack
     ·obtain ⟨p,v⟩:=up d _ q (k q g)
      rw [v] at A
      cases A
      exact absurd U (k q g _)
     ·have:=j q V M g
      rw [g5] at this
      cases this
  refine ⟨t.na,t.ha,E,C,d,G,D,a0,g1,g2,g3,g4,?_,?_,V,A,U,g9⟩
  ·rcases key with z | z
   ·rw [z];exact Q
   ·cases q:s.heap.get? d with
    | none=>rfl
    | some o =>
     obtain ⟨o',w⟩:=u.there d o q (by simp)
     rw [z] at w
     cases w
  ·rcases key with z | z
   ·rw [z];exact P
   ·cases q:H' d with
    | none=>rfl
    | some o =>
     obtain ⟨o',w⟩:=kC (ok d o q)
     rw [z] at w
     cases w
theorem yh.leave {Q:Unit->Shared->Prop}(f:yh X pins σ H' s1 a cls .none) (st:X.stack=X.env::X.outer) (j:X.env.frame=some X.env.locals)
  (k:∀h2,yh X pins σ H' { s1 with heap:=h2 } a cls .none->Q () { s1 with heap:=h2 }):ax ↥6 X.A (pe X.env (.ref a)) Q E s1:=by
 obtain ⟨B,a0,b,up⟩:=f.under
 have fr:X.A.frames=some (X.env::X.outer):=by rw [<- st];exact f.inv.ok.frames
 rw [st] at b
 obtain ⟨i,h,g,e⟩:=b
 exact VJ fr g j e i h λh2 k1 l d c=>k h2 (up h2 .none k1 c d)
theorem Zm {Q:Unit->Shared->Prop}(I:Inv X pins σ H s) (G:oV s.heap h1 a cls vs) (st:X.stack=X.env::X.outer) (U:X.env.frame=some X.env.locals)
  (k:∀h2,yh X pins σ H { s with heap:=h2 } a cls .none->Q () { s with heap:=h2 }):ax ↥6 X.A (pe X.env (.ref a)) Q E { s with heap:=h1 }:=by
 have fr:X.A.frames=some (X.env::X.outer):=by rw [<- st];exact I.ok.frames
 have j:=I.stack
 have x:∀env∈X.stack,∀c,env.frame=some c->c∈frs X.stack:=λenv S c d=>List.mem_filterMap.mpr ⟨env,S,d⟩
 have i:=tK j x
 have m:∀{c o},s.heap.get? c=some o->c∈frs X.stack->∀vs,o.data≠.fields vs:=λe d=>by
  obtain ⟨_,o',C,l⟩:=j.mem d
  rw [e] at C;cases C;exact l
 rw [st] at i
 refine Zu (s:={ s with heap:=h1 }) (B:=hideAll s.heap (frs (X.env::X.outer))) (h:=s.heap) fr U (λb o q=>of_hideAll _ q) i G λh2 t N b2 L b3 up=>?_
 rw [<- st] at L N
 obtain ⟨O,ws,T,P,ts,g1,g2,g3,Z,K,Y,u,J,V⟩:=L
 have g:∀{c o},s.heap.get? c=some o->c∉frs X.stack->h2.get? c=some o:=λe n=>N _ _ (hideAll_get _ e n)
 have f:∀{c o},s.heap.get? c=some o->c∈frs X.stack->∃p,h2.get? c=some { o with slots:=p }:=λ{c o} e d=>up c o (G.keeps _ _ e) (m e d)
 have v:s.heap.get? T=none:=by
  cases q:s.heap.get? T with
  | none=>rfl
  | some o =>
   exfalso
   by_cases d:T∈frs X.stack
   ·obtain ⟨p,e⟩:=f q d
    rw [e] at u
    cases u
    exact m q d _ J
   ·rw [hideAll_get _ q d] at K
    cases K
 have l:∀{c},s.heap.get? c=none->H c=none:=λ{c} e=>by
  cases q:H c with
  | none=>rfl
  | some o =>
   obtain ⟨o',M⟩:=kC (I.hok c o q)
   rw [e] at M
   cases M
 refine k h2 ⟨s,H,I,rfl,I.bare,⟨λc o e n R r=>g e R,λc o e n U r=>f e U,λc o e n r=>n,λc o e r=>?_,λ_ _ e=>e,λ_ _ _ e=>e,λc ps e=>⟨#[],by rw [e];simp⟩⟩,λc o d=>?_,G.new,l G.new,O,ws,T,P,ts,.ref t,g1,g2,g3,Z,v,l v,Y,u,J,V⟩
 ·by_cases d:c∈frs X.stack
  ·obtain ⟨p,e2⟩:=f e d
   exact ⟨_,e2⟩
  ·exact ⟨o,g e d⟩
 ·refine (I.hok c o d).stay (λc' o' D e=>?_) (λ_ e=>e) λ_ _ e=>e
  refine g e λz=>?_
  have:=I.stkFree _ z
  rcases D with y | y
  ·rw [y,d] at this;cases this
  ·rw [y] at this;cases this
end
noncomputable def Acc (X:Cx) (J:ai->St->Hp->Prop):Prop:=∀(pins:List (Addr×Obj)) (σ:St) (H':Hp) (s1:Shared) (a:Addr) (cls:ai),yh X pins σ H' s1 a cls .none->J cls σ H'->X.xe (.ref a) s1
noncomputable def Gs (sp:Sp) (J:ai->St->Hp->Prop) (t:TA):TE:=λσ H Q=>t σ H λa H1=>sp a H1 Q λcls _ H'=>J cls σ H'
structure CalX (P:Program) (w:bx) (K:af) (mg:Str->Option ai) (base:Heap) (k:Nat) (x:Str) (ps:List Str) (sp:Sp):Prop where
 ex:∃f fd,FnOk P w K mg base (CX1 P w) k f fd ps sp/\yR K fd ps []/\mg x=some (.ref f)/\cp K (.ref f)=true
theorem uW {X:Cx}{k:Nat}{e:Expr}{es:List Expr}{t:TA}{pos:Pos}(c:CalX X.prog X.w X.K X.mg X.base k x ps sp) (Y:Room k X.A) (ac:Acc X J) (hg:Gl X x) (ha:PA X (e::es) t)
  (U: ↥30=false:=by decide) (he:aU (e::es) X.env=↥39::aU es X.env:=by rfl) (G: (↥70).any (·.1)=false:=by rfl) :
  PE X ↥75 (Gs sp J t):=by
 obtain ⟨f,fd,F,y,n,v⟩:=c.ex
 intro pins s σ H Q I h
 refine dS (uA I hg n ?_ U)
 refine fh (h₀:=X.base) I.ok.mod.kin v (thn ↥52 λi s1 ⟨m,H1,g,r,q⟩=>⟨g.kIn,?_⟩) he G
 have o:i.length=ps.length:=by rw [<- r.length];exact F.len _ _ _ _ q
 have l:=y s1 i g.kIn (by rw [bj];exact o)
 rw [bj] at l
 refine nj (eE (F.run X.A X.stack s1 H1 ⟨i,[]⟩ i m Q _ Y g.env0 l r q) λr s' d=>?_)
 cases r with
 | error e =>
  obtain ⟨a,cls,H',rfl,os,b,u,ok,z,j⟩:=d
  exact ac pins σ H' s' a cls ⟨s1,H1,g,os,b,u,ok,z⟩ j
 | ok fl =>
  cases fl with
  | ret u=>exact g.after d
  | next=>exact bM d
  | brk=>exact bM d
  | cont=>exact bM d
theorem CalX.cal {w:bx}{K:af}{mg:Str->Option ai}{base:Heap}{k:Nat}{x:Str}{sp:Sp}(c:CalX P w K mg base k x ps sp):Cal P w K mg base k x ps (λvs H Q _=>sp vs H Q E0):=by
 obtain ⟨f,fd,F,b,n,o⟩:=c.ex
 refine ⟨f,fd,⟨λvs H Q E h=>F.len vs H Q E0 h,λA outer s H d g vs Q E m p b i l=>eE (F.run A outer s H d g vs Q E0 m p b i l) λr s' q=>?_⟩,b,n,o⟩
 cases r with
 | error e =>
  obtain ⟨a,cls,H',_,_,_,_,_,_,j⟩:=q
  exact bM j
 | ok fl =>
  cases fl with
  | ret u=>exact q
  | next=>exact q
  | brk=>exact q
  | cont=>exact q
theorem xQ {K:af}{E:XK} :
  Acc (uk (CX1 P w) P w K mg base N G scope f I A outer s H E) λcls _ H'=>E cls none H':=by
 intro pins σ H' s1 a cls fl j
 refine yh.leave (X:=uk (CX1 P w) P w K mg base N G scope f I A outer s H E) fl rfl rfl λh2 b=>?_
 exact ⟨a,cls,H',rfl,b.inv.os,b.inv.bare,b.inv.base,b.inv.hok,b.fly rfl,j⟩
noncomputable def E7 (X:Cx) (J:ai->St->Hp->Prop):Prop:=∀(pins:List (Addr×Obj)) (σ:St) (H:Hp) (s:Shared) (h1:Heap) (a:Addr) (cls:ai) (b:List ai),Inv X pins σ H s->oV s.heap h1 a cls b->J cls σ H->X.xe (.ref a) { s with heap:=h1 }
theorem zU {K:af}{E:XK} :
  E7 (uk (CX1 P w) P w K mg base N G scope f U A outer s H E) λcls _ H'=>E cls none H':=by
 intro pins σ H' s1 h1 a cls d I c j
 refine Zm (X:=uk (CX1 P w) P w K mg base N G scope f U A outer s H E) I c rfl rfl λh2 b=>?_
 exact ⟨a,cls,H',rfl,b.inv.os,b.inv.bare,b.inv.base,b.inv.hok,b.fly rfl,j⟩
theorem WR {K:af}{j:String}(X:K.In h) (q:excIn K C G j=true) :
  ∃bm N nm q bs hdct sn sub ab col dd k0 k1 k2 k3 k5 mN,h.get? C=some (excClassObj nm q C N bs bm hdct sn sub ab col dd k0 k1 k2 k3 k5 j)/\h.Ns N mN/\mN "__init__" = none/\OwnTail h G bm:=by
 unfold excIn at q
 split at q
 ·rename_i dd o b g
  split at q
  ·rename_i s bm k0 k1 k2 k3 n k5 c es
   simp only [bt,beq_iff_eq,Bool.not_eq_true'] at q
   obtain ⟨⟨⟨⟨⟨rfl,rfl⟩,e⟩,m⟩,a⟩,d⟩:=q
   obtain ⟨nm,bs,p,ns,f,i,sn,sub,ab,col,r⟩:=o
   dsimp only at c e a d
   subst c e
   have k:b = #[k0,k1,k2,k3,some (.builtin n),k5]:=by obtain ⟨l⟩:=b;simp only at es;rw [es]
   subst k
   exact ⟨bm,ns,nm,f,bs,i,sn,sub,ab,col,dd,k0,k1,k2,k3,k5,_,X _ _ g,.of_isNs (isNs_of_in X a),nsMap_none_of_in X a d,tail_of_in X m⟩
  ·cases q
 ·cases q
theorem zd {X:Cx}{pos:Pos}{e:Expr}{es:List Expr}{t:TA}{C:Addr}{B G U:String}{J:ai->St->Hp->Prop}(FB:ExcBaseFacts B G U an) (O:excIn X.K C an G=true) (hm:X.mg x=some (.ref C)) (hc:X.calm=true) (am:E7 X J)
  (hg:Gl X x) (ha:PA X (e::es) t) (al: ↥30=false:=by decide) (Y:aU (e::es) X.env=↥39::aU es X.env:=by rfl) (ac:(dh cpos (aU es X.env)).any (·.1)=false:=by rfl) :
  PS X (.Raise (some (.Call (.Name x np) (e::es) [] cpos)) none pos) (λD σ H=>t σ H λvs H1=>vs.length<=sizeLine/\J (.ref C) σ H1):=by
 intro pins s σ H D I h
 obtain ⟨bm,N,nm,q,bs,hdct,sn,sub,ab,col,dd,k0,k1,k2,k3,k5,mN,k,i,c,T⟩:=WR I.ok.mod.kin O
 have h':=ha cpos pins s σ H _ I h
 rw [Y] at h'
 refine wpAny_Raise_call_subT (C:=C) (nm:=nm) (q:=q) (N:=N) (bs:=bs) (bm:=bm) (hdct:=hdct) (sn:=sn) (sub:=sub) (ab:=ab) (col:=col) (dd:=dd) (k0:=k0) (k1:=k1) (k2:=k2) (k3:=k3) (k5:=k5)
  FB (mN:=mN) (T.hasType FB.hasBase) (I.ok.hd hc) (by rw [Y];show (false || (dh cpos (aU es X.env)).any (·.1))=false;rw [ac];rfl) c (uA I hg hm ⟨rfl,?_⟩ al)
 rw [Y]
 refine iY (thn h' λl d ⟨vs,H2,b,r,g,j⟩=>⟨rfl,by rw [<- r.length];exact g,b.bk _ _ k,i.keeps b.bk,T.keeps b.bk,λh1 a f=>am pins σ H2 d h1 a (.ref C) _ b f j⟩)
theorem Fun.okX {w:bx}{K:af}{mg:Str->Option ai}{base:Heap}{x:Str}{st:Stmt}{f:Addr}{N:List Str}{k:Nat}{sp:Sp}(F:Fun K x G st f fd) (S:FnScope N ps (ja st)) (len:∀vs H Q E,sp vs H Q E->vs.length=ps.length)
  (I:∀(j:ai) (A:bC) (outer:List Env) (s:Shared) (H:Hp) (vs:List V) (Q:VK) (E:XK),Room k (A.deeper (mE G (ja st) s.heap.objs.size f j))->sp vs H Q E ->
   ∃t,PSs (uk (CX1 P w) P w K mg base N G (ja st) f j A outer s H E) (jS st) t/\t { nx:=λ_ H'=>Q .non H',rt:=Q } (start N vs) H):FnOk P w K mg base (CX1 P w) (k+1) f fd ps sp:=by
 obtain ⟨h,g,kV,doc,pm,l,j,i,e,rfl,c,b⟩:=F.ex
 exact Vz c b S len λA outer s H vs Q E d a=>I j A outer s H vs Q E d a
theorem CalX.mk' {w:bx}{K:af}{mg:Str->Option ai}{base:Heap}{k:Nat}{x:Str}{ps:List Str}{st:Stmt}{f:Addr}{oc:ai}{od U:Option Addr}{Y:Array (Option ai)}{kV doc pm j I:ai}
  (X:K.In h) (G:h.Ns mainGlobals mg) (a:bb K mainGlobals x=some (some (.ref f)))
  (l:K.lookup f=some ⟨oc,od,.func ↥74,Y⟩) (c:d6 K j x=true) (k':cp K (.ref f)=true)
  (hb:∀(kV doc pm:ai) (U:Option Addr) (j I:ai) (us:List ai),us.length=ps.length->d5 ↥74 ⟨us,[]⟩=pure (ps.zip us))
  (ok:∀{f:Addr} {fd:FuncData},Fun K x x st f fd->FnOk P w K mg base (CX1 P w) k f fd ps sp):CalX P w K mg base k x ps sp:=by
 have F:=vV (st:=st) l c k'
 exact ⟨f,_,ok F,F.binds hb,bG X G a,k'⟩
end L2
end
section
namespace L2
open PySem.W
section
variable {X:Cx}{pins pn:List (Addr×Obj)}{σ:St}{H:Hp}{s:Shared}{J:ai->St->Hp->Prop}
theorem okP (ok:X.Ok) (Y:Cx) (h:Y={ X with pn:=Y.pn,xe:=Y.xe }):Y.Ok:=by
 rw [h]
 exact ⟨ok.mod,ok.kind,ok.glob,ok.blt,ok.above,ok.inj,ok.has,ok.cab,ok.hd,ok.frames,ok.stk,ok.exf,ok.bs,ok.bsz,ok.noex,ok.exfs,ok.funs,ok.frf⟩
theorem spOf {D:Ends}(g:∀{σ H},Inv Y j σ H s'->Inv X pins σ H s') (h:SP Y j D f s'):SP X pins D f s':=by
 cases f with
 | next=>obtain ⟨a,H',I,q⟩:=h;exact ⟨a,H',g I,q⟩
 | brk=>obtain ⟨a,H',I,q⟩:=h;exact ⟨a,H',g I,q⟩
 | cont=>obtain ⟨a,H',I,q⟩:=h;exact ⟨a,H',g I,q⟩
 | ret u=>obtain ⟨v,a,H',I,r,q⟩:=h;exact ⟨v,a,H',g I,r,q⟩
end
end L2
end
section
namespace L2
open PySem.W
section
variable {s:Shared}{A:bC}{prog:Program}{w:bx}{E:ai->Shared->Prop}
end
section
variable {X:Cx}
end
end L2
end
section
namespace L2
open PySem.W
end L2
end
section
namespace L2
open PySem.W
section
variable {X:Cx}{o e:Expr}{es:List Expr}{to:TE}{t:TA}{name:Str}{apos cpos:Pos}{id:String}{r:V->List V->Hp->VK->Prop}
end
end L2
end
section
namespace L2
open PySem.W
noncomputable abbrev kg (ifs:List Expr) (env:Env):Sem Bool:=mU ifs true λc r=>if r=true then do let ok <- isTrue c env (eval c env);pure (cq ok) else pure (cq r)
noncomputable abbrev xC (elt tg iter tg2 iter2:Expr) (ifs ifs2:List Expr) (scope:Scope) (pos:Pos):Expr:=.ListComp elt [⟨tg,iter,ifs,0⟩,⟨tg2,iter2,ifs2,0⟩] scope pos
theorem V4 (elt tg iter tg2 iter2:Expr) (ifs ifs2:List Expr) (scope:Scope) (pos:Pos) (it acc:ai) (env:Env) :
  rJ ↥8 0 it acc env=(ip iter.pos >>= λ_=>lj it >>= λr=>match r with
   | none=>pure (.done .next)
   | some v=>dG tg it v >>= λ_=>lh tg env v >>= λ_=>kg ifs env >>= λok =>
    (if ok=true then (eval iter2 env >>= λx=>ip iter2.pos >>= λ_=>cY iter2 env x >>= λx=>i8 [x] (oG x) >>= λj=>runOwn (.compStart ↥8 1 j acc env) env >>= λ_=>again (.compLoop ↥8 0 it acc env))
     else again (.compLoop ↥8 0 it acc env))):=by
 rfl
theorem VD (elt tg iter tg2 iter2:Expr) (ifs ifs2:List Expr) (scope:Scope) (pos:Pos) (it acc:ai) (env:Env) :
  rJ ↥8 1 it acc env=(ip iter2.pos >>= λ_=>lj it >>= λr=>match r with
   | none=>pure (.done .next)
   | some v=>dG tg2 it v >>= λ_=>lh tg2 env v >>= λ_=>kg ifs2 env >>= λok =>
    (if ok=true then ((eval elt env >>= λx=>call (.builtin "list.append") [acc,x] >>= λ_=>pure ()) >>= λ_=>again (.compLoop ↥8 1 it acc env))
     else again (.compLoop ↥8 1 it acc env))):=by
 rfl
section
variable {s:Shared}{A:bC}{prog:Program}{w:bx}{R:pQ->Shared->Prop}{elt tg iter tg2 iter2:Expr}{ifs ifs2:List Expr}{scope:Scope}{pos:Pos}{it acc:ai}{env:Env}
theorem U1 (I:Nat->Shared->Prop)
  (turn:∀n s,I n s->ax (ay prog w) A (lj it) (λr s₁=>match r with
   | none=>R (.ok .next) s₁
   | some v=>ax (ay prog w) A (dG tg2 it v) (λ_ s₂=>ax (ay prog w) A (lh tg2 env v) (λ_ s₃=>ax (ay prog w) A (kg ifs2 env) (λok s₄ =>
      if ok=true then ax (ay prog w) A (eval elt env) (λx s₅=>ax (ay prog w) A (call (.builtin "list.append") [acc,x]) (λ_ s₆=>∃m,m<n/\I m s₆) (λ_ _=>False) s₅) (λ_ _=>False) s₄
      else ∃m,m<n/\I m s₄) (λ_ _=>False) s₃) (λ_ _=>False) s₂) (λ_ _=>False) s₁) (λ_ _=>False) s)
  (n:Nat) (h:I n s):dO (ay prog w) A (.compLoop ↥8 1 it acc env) R s:=by
 refine rH rfl I (λn s hI=>?_) n h
 show ax _ A ((rJ ↥8 1 it acc env).onRaise (λx=>do lR x env;oa x)) _ _ s
 refine sL ?_;rw [VD]
 refine aa ↥90
 cases r with
 | none=>exact wpAny_pure h₁
 | some v =>
  refine aa ↥148
  refine aa ↥56
  cases ok with
  | false=>exact wpAny_pure ⟨rfl,h₄⟩
  | true=>exact aa (aa (bf h₄ (λx s₅ h₅=>aa (bf h₅ (λ_ s₆ h₆=>wpAny_pure (wpAny_pure ⟨rfl,h₆⟩)) λ_ _ h'=>h'.elim)) λ_ _ h'=>h'.elim))
theorem Yk {R:pQ->Shared->Prop}(h0:dO (ay prog w) A (.compLoop ↥8 1 it acc env) R s)
  (h:ax (ay prog w) A (oG it) (λi2 s'=>dO (ay prog w) A (.compLoop ↥8 1 i2 acc env) R s') (λ_ _=>False) s) :
  dO (ay prog w) A (.compStart ↥8 1 it acc env) R s:=by
 refine codeAny_of_tree ?_
 show ax _ _ ((compStart ↥8 1 it acc env).onRaise (λx=>do lR x env;ip theWindowsPlace)) _ _ s
 refine wpAny_notedAt ?_;unfold compStart;show ax _ _ (ask >>= _) _ _ s
 refine aa (wpAny_askSetting (wpAny_ite ?_))
 split
 ·first | exact aa (wpAny_pure (wpAny_pure (ik rfl h0))) | exact wpAny_pure (ik rfl h0)
 ·first
   | exact aa (d9 (aa (dP (aa (bf h (λi2 s' h'=>wpAny_pure (ik rfl h')) λ_ _ x=>x.elim)))))
   | (refine aa (d9 ?_);show ax _ _ (ip iter2.pos >>= _) _ _ s;exact aa (dP (aa (bf h (λi2 s' h'=>wpAny_pure (ik rfl h')) λ_ _ x=>x.elim))))
theorem Yh (I:Nat->Shared->Prop) (hs2:∀x,cY iter2 env x=pure x)
  (turn:∀n s,I n s->ax (ay prog w) A (lj it) (λr s₁=>match r with
   | none=>R (.ok .next) s₁
   | some v=>ax (ay prog w) A (dG tg it v) (λ_ s₂=>ax (ay prog w) A (lh tg env v) (λ_ s₃=>ax (ay prog w) A (kg ifs env) (λok s₄ =>
      if ok=true then ax (ay prog w) A (eval iter2 env) (λx s₅=>ax (ay prog w) A (oG x) (λi2 s₆=>dO (ay prog w) A (.compStart ↥8 1 i2 acc env) (λr s'=>match r with | .ok _=>∃m,m<n/\I m s' | .error _=>False) s₆) (λ_ _=>False) s₅) (λ_ _=>False) s₄
      else ∃m,m<n/\I m s₄) (λ_ _=>False) s₃) (λ_ _=>False) s₂) (λ_ _=>False) s₁) (λ_ _=>False) s)
  (n:Nat) (h:I n s):dO (ay prog w) A (.compLoop ↥8 0 it acc env) R s:=by
 refine rH rfl I (λn s hI=>?_) n h
 show ax _ A ((rJ ↥8 0 it acc env).onRaise (λx=>do lR x env;oa x)) _ _ s
 refine sL ?_;rw [V4]
 refine aa ↥90
 cases r with
 | none=>exact wpAny_pure h₁
 | some v =>
  refine aa ↥148
  refine aa ↥56
  cases ok with
  | false=>exact wpAny_pure ⟨rfl,h₄⟩
  | true =>
   refine aa (bf h₄ (λx s₅ h₅=>aa (dP (aa (oS (hs2 x) (aa (bZ (bf h₅ (λi2 s₆ h₆=>aa (wpAny_runOwn ?_)) λ_ _ h'=>h'.elim))))))) λ_ _ h'=>h'.elim)
   rw [Around.mark_none]
   refine eE h₆ λr s' q=>?_
   cases r with
   | ok f=>exact wpAny_pure ⟨rfl,q⟩
   | error e=>exact q.elim
end
noncomputable def kM (acc:Addr) (Y:TG) (I:TT) (te:TE) (G:It) (NX:St->Hp->Prop) (U:St) (H5:Hp):Prop :=
 ∃e:Nat->Nat->St->Hp->Prop,(∃m,e 0 m U H5)/\∀j m d H6,e j m d H6->(G.stop j H6/\NX d H6)\/(G.go j H6/\∃a:St->Hp->Prop,(∀f H7,a f H7->∃h,h<m/\e (j+1) h f H7) /\
  ∀y H7,G.yld j H6 y H7->Y y d H7 λb k=>I b k λg i=>if g=true then te b i λv c=>∃ys,c acc=some (.lst ys)/\ys.length<sizeLine/\a b (upd c acc (.lst (ys++[v]))) else a b i)
section
variable {X:Cx}{pos:Pos}
noncomputable def Gx (own:Nat) (caps:List Nat) (I:TI) (g:TG) (U:TT) (j:TI) (Y:TG) (G:TT) (te:TE):TE:=λσ H Q=>I σ H λJ H1=>∀acc,H1 acc=none ->
 ∃W:Nat->Nat->St->Hp->Prop,(∃m,W 0 m (vP own caps σ) (upd H1 acc (.lst [])))/\∀i m d H',W i m d H' ->
  (J.stop i H'/\Q (.ref acc) H') \/
  (J.go i H'/\∃b:St->Hp->Prop,(∀c H2,b c H2->∃e,e<m/\W (i+1) e c H2) /\
   ∀x H2,J.yld i H' x H2->g x d H2 λa k=>U a k λok f=>if ok=true then j a f λh H5=>kM acc Y G te h b a H5 else b a f)
theorem Ys {scope:Scope}{own:Nat}{G:List (Str×Addr)}{tg elt iter tg2 iter2:Expr}{ifs ifs2:List Expr}{g2:TG}{ti a8:TT}{a6:TI}{te:TE}{H:Hp}{s:Shared}{U:List Addr}{it:Addr}
    {Q:VK} {RR:ai->Addr->pQ->Shared->Prop} {E:ai->Shared->Prop}
  (hc:X.calm=true) (S:CompSc osc ON scope own N caps) (c8:X.env.scope=osc) (hN:X.N=ON) (dn:∀x,G.lookup x=if (x,br)∈scope.names then X.env.cells.lookup x else none)
  (hg:∀G C s H ex,PG ↥54 tg g) (dc:∀G C s H ex,JO ↥54 ifs ti) (dd:∀G C s H ex,PI ↥54 tg2 iter2 a6) (dk:∀G C s H ex,PG ↥54 tg2 g2) (b1:∀G C s H ex,JO ↥54 ifs2 a8) (he:∀G C s H ex,PE ↥54 elt te) (da:∀env x,cY iter2 env x=pure x)
  (I:Inv X pins σ H s) (T:Turn X.prog X.w X.K tg J U it tn) (st:tn 0 s.heap) (hf:∀b∈U,wE X pins H b)
  (hw:∀acc,H acc=none->∃W:Nat->Nat->St->Hp->Prop,(∃m,W 0 m (vP own caps σ) (upd H acc (.lst [])))/\∀i m Y H',W i m Y H' ->
   (J.stop i H'/\Q (.ref acc) H')\/(J.go i H'/\∃NX:St->Hp->Prop,↥126 /\
    ∀x H2,J.yld i H' x H2->g x Y H2 λσ3 H3=>ti σ3 H3 λok H4=>if ok=true then a6 σ3 H4 λJ2 H5=>kM acc g2 a8 te J2 NX σ3 H5 else NX σ3 H4))
  (fin:∀(D C:Addr) (H':Hp) (s':Shared),Inv X pins σ H' s'->BlockAt X pins H' C->(∃m,s'.heap.Ns C m)->Q (.ref D) H'->RR (.ref D) C (.ok .next) s') :
  ax ↥6 X.A (sV []) (λacc s₃=>ax ↥6 X.A (tD scope X.env.globals G [] X.env.qual none .none (some X.env)) (λa1 s₄ =>
   dO ↥6 X.A (.compStart ↥8 0 (.ref it) acc { a1 with scope:=relabel scope X.env }) (RR acc a1.locals) s₄) E s₃) E s:=by
 have bk:∀b∈U,b<s.heap.objs.size:=λb a=>by
  obtain ⟨o,e,_⟩:=T.obj _ _ st b a
  exact aw e
 refine cO (oK S.nocell (by intro y hy;simp at hy) (λh₁ R l=>?_) S.kind)
 dsimp only at R l ⊢
 generalize ap:s.heap.push { cls:=.type "list",dict:=none,data:=.seq ([]:List ai).toArray }=H2 at R l ⊢
 have as:H2.objs.size=s.heap.objs.size+1:=by rw [<- ap,cZ]
 have bi:∀b o,s.heap.get? b=some o->h₁.get? b=some o:=λb o e=>l.extBut b o (aF (by rw [as];exact bW (aw e))) (ah _ (ap ▸ ah _ e))
 have eD:h₁.get? s.heap.objs.size=some { cls:=.type "list",data:=.seq #[] }:=l.extBut _ _ (aF ∅) (ah _ (ap ▸ aE _ rfl))
 have ds:H s.heap.objs.size=none:=I.hok.fresh (ak _)
 obtain ⟨W,⟨m0,w0⟩,bv⟩:=hw s.heap.objs.size ds
 have db:h₁.Ns H2.objs.size λ_=>none:=R
 have I1:Inv ↥11 [] (vP own caps σ) (upd H s.heap.objs.size (.lst [])) { s with heap:=h₁,toks:=s.toks+([]:List (Str×ai)).length } :=
  wS S c8 hN dn I hf bk rfl as bi eD db _
 have bc:tn 0 h₁:=T.keep 0 _ _ st λb _ o e=>bi b o e
 have aL:∀{H':Hp},(∀b∈U,H' b=none)->∀b∈U,wE ↥11 [] H' b:=λ{H'} hn b a=>by
  have ok:=I1.ok
  exact ⟨hn b a,(ok.exf b a).1,ok.exfs b a,.inl a,(ok.exf b a).2,λp hp=>absurd (show p∈([]:List (Addr×Obj)) from hp) (by simp)⟩
 have b4:∀{Y:St} {H':Hp} {s':Shared},Inv ↥11 [] Y H' s'->Q ↥18 H'->RR ↥18 H2.objs.size (.ok .next) s':=λ{Y H' s'} J1 q=>by
  have J2:Inv X pins σ H' s':=I.call' (ch:=U) J1.os J1.base J1.hok J1.bare λb a=>⟨(hf b a).2.2.2.1,(hf b a).2.1,(hf b a).2.2.2.2.1,(hf b a).2.2.2.2.2⟩
  obtain ⟨m,hm,_⟩:=J1.loc
  refine fin _ _ H' s' J2 ⟨J1.free,dN (aX I.lt ∅),aN I.sz ∅,λx c e z=>?_,λp hp z=>?_⟩ ⟨m,hm⟩ q
  ·obtain ⟨v,y⟩:=I.cell x c e
   have h1:H2.objs.size<s.heap.objs.size:=z ▸ y.lt
   exact absurd h1 ∅
  ·have h1:H2.objs.size<s.heap.objs.size:=z ▸ aw (I.pin p hp).1
   exact absurd h1 ∅
 have an:∀s₃:Shared,s₃={ s with heap:=h₁,toks:=s.toks+([]:List (Str×ai)).length } ->
   dO ↥6 X.A (.compLoop ↥8 0 (.ref it) ↥18 (tm scope G H2.objs.size X.env)) (RR ↥18 H2.objs.size) s₃:=by
  rintro s₃ rfl
  refine Yh (λn s'=>∃i Y H',Inv ↥11 [] Y H' s'/\tn i s'.heap/\(∀b∈U,H' b=none)/\W i n Y H') (da _) ?_ m0
   ⟨0,_,_,I1,bc,λb a=>by rw [j8 (aF (bk b a))];exact (hf b a).1,w0⟩
  rintro n s3 ⟨i,σ3,H3,I3,ba,fr3,w3⟩
  rcases bv i n σ3 H3 w3 with ⟨b0,qn⟩ | ⟨go,NX,dp,step⟩
  ·refine thn (T.done ↥11 rfl rfl rfl hc i [] s3 σ3 H3 _ I3 (aL fr3) ba b0) λr s4 ⟨P,I4⟩=>?_
   subst P
   exact b4 I4 qn
  ·refine thn (T.item ↥11 rfl rfl rfl hc i [] s3 σ3 H3 _ I3 (aL fr3) ba go) λr s4 ⟨u,P,h4⟩=>?_
   subst P
   refine thn h4 λ_ s5 ⟨x,H5,I5,r5,y5,al,dx⟩=>?_
   have dz:=I5.pinned (aL dx) (T.obj _ _ al)
   refine thn (hg G H2.objs.size s H U _ s5 σ3 H5 x u _ dz r5 (step x H5 y5)) λ_ s6 ⟨σ6,H6,I6,q6⟩=>?_
   refine thn (dc G H2.objs.size s H U _ s6 σ6 H6 _ I6 q6) λok s7 ⟨H7,I7,q7⟩=>?_
   have again:∀{s8:Shared} {σ8:St} {H8:Hp},Inv ↥11 ([]++zF U s5.heap) σ8 H8 s8->NX σ8 H8->∃m,m<n/\∃i Y H',Inv ↥11 [] Y H' s8/\tn i s8.heap/\(∀b∈U,H' b=none)/\W i m Y H':=λ{s8 σ8 H8} I8 n8=>by
    obtain ⟨m',hm,w8⟩:=dp σ8 H8 n8
    refine ⟨m',hm,i+1,σ8,H8,I8.unpinned,T.keep _ _ _ al λb a o e=>(I8.pin (b,o) (aJ _ (aJ _ (qV a e)))).1,λb a=>?_,w8⟩
    obtain ⟨o,e,d⟩:=T.obj _ _ al b a
    exact (I8.pin (b,o) (aJ _ (aJ _ (qV a e)))).2.1
   cases ok with
   | false =>
    rw [if_neg aq] at q7 ⊢
    exact again I7 q7
   | true =>
    rw [if_pos rfl] at q7 ⊢
    refine thn (dd G H2.objs.size s H U _ s7 σ6 H7 _ I7 q7) λv s8 h8=>thn h8 λd2 s9 h9=>?_
    obtain ⟨c4,B,a7,J2,H9,e,I9,T2,a9,f9,W2,⟨m2,w2⟩,a2⟩:=h9
    subst e
    have k:∀{H':Hp},(∀b∈B,H' b=none)->∀b∈B,wE ↥11 ([]++zF U s5.heap) H' b:=λhn b a=>⟨hn b a,(f9 b a).2⟩
    have ac:dO ↥6 X.A (.compLoop ↥8 1 (.ref c4) ↥18 (tm scope G H2.objs.size X.env)) (λr s'=>match r with | .ok _=>∃m,m<n/\∃i Y H',Inv ↥11 [] Y H' s'/\tn i s'.heap/\(∀b∈U,H' b=none)/\W i m Y H' | .error _=>False) s9:=by
     refine U1 (λn2 s'=>∃j Y H',Inv ↥11 ([]++zF U s5.heap) Y H' s'/\a7 j s'.heap/\(∀b∈B,H' b=none)/\W2 j n2 Y H') ?_ m2 ⟨0,_,_,I9,a9,λb a=>(f9 b a).1,w2⟩
     rintro n2 be ⟨j,Z,a0,bn,am,az,cd⟩
     rcases a2 j n2 Z a0 cd with ⟨a3,c2⟩ | ⟨du,bl,b2,a4⟩
     ·refine thn (T2.done ↥11 rfl rfl rfl hc j _ be Z a0 _ bn (k az) am a3) λr cr ⟨P,dT⟩=>?_
      subst P
      exact again dT c2
     ·refine thn (T2.item ↥11 rfl rfl rfl hc j _ be Z a0 _ bn (k az) am du) λr cr ⟨u2,P,dt⟩=>?_
      subst P
      refine thn dt λ_ bd ⟨x2,bs,dK,ct,ca,O,b3⟩=>?_
      have b5:=dK.pinned (k b3) (T2.obj _ _ O)
      refine thn (dk G H2.objs.size s H U _ bd Z bs x2 u2 _ b5 ct (a4 x2 bs ca)) λ_ cm ⟨V,d0,dF,c0⟩=>?_
      refine thn (b1 G H2.objs.size s H U _ cm V d0 _ dF c0) λc1 ci ⟨dV,bm,ab⟩=>?_
      have L:∀{h:Shared} {t:St} {f:Hp},Inv ↥11 (([]++zF U s5.heap)++zF B bd.heap) t f h->bl t f->∃m,m<n2/\∃j Y H',Inv ↥11 ([]++zF U s5.heap) Y H' h/\a7 j h.heap/\(∀b∈B,H' b=none)/\W2 j m Y H':=λ{h t f} M c3=>by
       obtain ⟨m',hm,cb⟩:=b2 t f c3
       refine ⟨m',hm,j+1,t,f,M.unpinned,T2.keep _ _ _ O λb a o e=>(M.pin (b,o) (aJ _ (aJ _ (qV a e)))).1,λb a=>?_,cb⟩
       obtain ⟨o,e,d⟩:=T2.obj _ _ O b a
       exact (M.pin (b,o) (aJ _ (aJ _ (qV a e)))).2.1
      cases c1 with
      | false =>
       rw [if_neg aq] at ab ⊢
       exact L bm ab
      | true =>
       rw [if_pos rfl] at ab ⊢
       refine thn (he G H2.objs.size s H U _ ci V dV _ bm ab) λce h ⟨a5,f,M,cs,ys,dy,b6,cL⟩=>?_
       refine thn (qh _ h V f ↥18 [a5] _ [ce] (λ_ bq=>bl V bq) M rfl (.cons cs .nil) ⟨_,ys,a5,rfl,rfl,dy,b6,cL⟩) λ_ d1 ⟨_,bq,dD,_,cy⟩=>?_
       exact L dD cy
    exact Yk ac (T2.self _ 0 _ _ _ a9 ac)
 exact nH (an _ rfl) (T.self _ 0 _ _ _ bc (an _ rfl))
theorem VF {own:Nat}(S:CompSc osc ON scope own N caps)
  (hc:X.calm=true) (G:X.env.scope=osc) (hN:X.N=ON) (hi:PI X tg iter wi)
  (hg:∀j C s H ex,PG ↥55 tg g) (al:∀j C s H ex,JO ↥55 ifs ti) (am:∀j C s H ex,PI ↥55 tg2 iter2 Y) (an:∀j C s H ex,PG ↥55 tg2 g2) (U:∀j C s H ex,JO ↥55 ifs2 ab) (he:∀j C s H ex,PE ↥55 elt te)
  (hs:∀x,cY iter X.env x=pure x:=by intro _;rfl) (ac:∀env x,cY iter2 env x=pure x:=by intro _ _;rfl):PE X (.ListComp elt [⟨tg,iter,ifs,0⟩,⟨tg2,iter2,ifs2,0⟩] scope pos) (Gx own caps wi g ti Y g2 ab te):=by
 intro pins s σ H Q I h
 obtain ⟨j,a,d⟩:=ud (Zy S G I)
 rw [tV]
 refine i7 (use:=none) rfl hs a S.kind S.loc (thn (hi pins s σ H _ I h) λv s1 h1=>thn h1 λo r h2=>?_)
 obtain ⟨it,t,p,J,H2,e,n,T,b,k,f⟩:=h2
 subst e
 refine Ys (RR:=λacc C=>Ae ↥6 X.A X.xe none ↥62 acc C) hc S G hN d hg al am an U he ac n T b k f λD C H' s' l B ⟨m,i⟩ q=>?_
 exact ⟨m,i,λh' c=>⟨.ref D,H',B.gone l c,rfl,q⟩⟩
end
end L2
end
section
namespace L2
open PySem.W
structure CalM (P:Program) (w:bx) (K:af) (mg:Str->Option ai) (base:Heap) (k:Nat) (C:Addr) (m:Str) (ps:List Str) (sp:Sp):Prop where
 ex:∃f fd,FnOk P w K mg base CX0 k f fd ps sp/\yR K fd ps []/\Meth K C m f
structure CalMX (P:Program) (w:bx) (K:af) (mg:Str->Option ai) (base:Heap) (k:Nat) (C:Addr) (m:Str) (ps:List Str) (sp:Sp):Prop where
 ex:∃f fd,FnOk P w K mg base (CX1 P w) k f fd ps sp/\yR K fd ps []/\Meth K C m f
section
variable {X:Cx}{k:Nat}{f C:Addr}{fd:FuncData}{ps:List Str}{sp:Sp}{x m:Str}{p pos apos:Pos}{e o:Expr}{es:List Expr}{ta:TE}{t:TA}{J:ai->St->Hp->Prop}
theorem Ei {pins:List (Addr×Obj)}{σ:St}{s:Shared}{Q:VK}{us:List ai}(F:FnOk X.prog X.w X.K X.mg X.base (CX1 X.prog X.w) k f fd ps sp) (G:Room k X.A) (U:yR X.K fd ps []) (Y:Acc X J)
  (I:Inv X pins σ H s) (r:jG vs us) (h:sp vs H Q λcls _ H'=>J cls σ H'):ax ↥6 X.A (call (.ref f) us) ↥62 X.xe s:=by
 have g:us.length=ps.length:=by rw [<- r.length];exact F.len _ _ _ _ h
 have d:=U s us I.kIn (by rw [bj];exact g)
 rw [bj] at d
 refine nj (eE (F.run X.A X.stack s H ⟨us,[]⟩ us vs Q _ G I.env0 d r h) λr s' c=>?_)
 cases r with
 | error e =>
  obtain ⟨a,cls,H',rfl,os,b,u,ok,i,j⟩:=c
  exact Y pins σ H' s' a cls ⟨s,H,I,os,b,u,ok,i⟩ j
 | ok fl =>
  cases fl with
  | ret u=>exact I.after c
  | next=>exact bM c
  | brk=>exact bM c
  | cont=>exact bM c
theorem pe_m (he:PE X o ta) (c:Cls X.K C) (cm:CalM X.prog X.w X.K X.mg X.base k C m ps sp) (hr:Room k X.A) (ha:PA X (e::es) t)
  (hst:aU (e::es) X.env=↥39::aU es X.env:=by rfl) (hpl: (↥70).any (·.1)=false:=by rfl)
  (ht:eval ↥48 X.env=(do let ov <- eval o X.env;ip apos.atName;let (f,first) <- i8 [ov] (mS ov m pl);rm pos f first (dh pos (aU (e::es) X.env)) (lV pos (fQ [] X.env))):=by rfl) :
  PE X ↥48 (Wp C m sp [] E0 ta t):=by
 obtain ⟨f,fd,F,hb,hm⟩:=cm.ex
 exact UN he c hm F hr hb .nil Wk ha hst hpl ht
inductive tMethXI (C:Addr) (m:Str) (sp:Sp) (J:ai->St->Hp->Prop) (t:TA) (σ:St) (Q:VK) (x:V) (H1:Hp):Prop
 | mk (a:_) (dx:_) (fs:_) (_:x = .ref a) (_:H1 a=some ↥116) (_:fs.lookup m=none) (_:t σ H1 λvs H2=>sp (x::vs) H2 Q λcls _ H'=>J cls σ H')
noncomputable def WW (C:Addr) (m:Str) (sp:Sp) (J:ai->St->Hp->Prop) (ta:TE) (t:TA):TE:=λσ H Q=>ta σ H λx H1=>tMethXI C m sp J t σ Q x H1
theorem yS (he:PE X o ta) (c:Cls X.K C) (cm:CalMX X.prog X.w X.K X.mg X.base k C m ps sp) (hr:Room k X.A) (ac:Acc X J) (ha:PA X (e::es) t)
  (hst:aU (e::es) X.env=↥39::aU es X.env:=by rfl) (hpl: (↥70).any (·.1)=false:=by rfl)
  (ht:eval ↥48 X.env=(do let ov <- eval o X.env;ip apos.atName;let (f,first) <- i8 [ov] (mS ov m pl);rm pos f first (dh pos (aU (e::es) X.env)) (lV pos (fQ [] X.env))):=by rfl) :
  PE X ↥48 (WW C m sp J ta t):=by
 obtain ⟨f,fd,F,hb,hm⟩:=cm.ex
 intro pins s σ H Q I h
 refine iO (pl:=pl) (thn (he pins s σ H _ I h) λu s1 ⟨x,H1,I1,rx,a,dx,fs,ex,ea,l,q⟩=>?_) ht
 subst ex
 obtain rfl:u=b8 a:=rx
 refine ui I1 ea c hm l ?_
 refine fh (first:=[.ref a]) (h₀:=X.base) I.ok.mod.kin hm.kp (thn (ha pos pins s1 σ H1 _ I1 q) λus s2 ⟨vs,H2,I2,r,q2⟩=>⟨I2.kIn,?_⟩) hst hpl
 exact Ei (us:=.ref a::us) (vs:=.ref a::vs) F hr hb ac I2 (.cons rfl r) q2
structure MakX (P:Program) (w:bx) (K:af) (mg:Str->Option ai) (base:Heap) (k:Nat) (C:Addr) (x:Str) (ps:List Str) (sp:Sp):Prop where
 ex:∃f fd,FnOk P w K mg base (CX1 P w) k f fd ps sp/\yR K fd ps []/\Mk K C f/\mg x=some (.ref C)
noncomputable def GF (C:Addr) (sp:Sp) (J:ai->St->Hp->Prop) (t:TA):TE:=λσ H Q=>t σ H λa H1=>∀x dx,H1 x=none->H1 dx=none->dx≠x ->
 sp (.ref x::a) (upd (upd H1 dx (.own x)) x (.ins C dx [])) (λv H2=>v = .non/\Q (.ref x) H2) λcls _ H'=>J cls σ H'
theorem Wc (c:MakX X.prog X.w X.K X.mg X.base k C x ps sp) (Y:Room (k+1) X.A) (ac:Acc X J) (hg:Gl X x) (ha:PA X (e::es) t) (U: ↥30=false:=by decide) (he:aU (e::es) X.env=↥39::aU es X.env:=by rfl) (G: (↥70).any (·.1)=false:=by rfl) :
  PE X ↥75 (GF C sp J t):=by
 obtain ⟨f,fd,F,L,M,D⟩:=c.ex
 intro pins y σ H0 Q m N
 refine dS (uA m hg D ?_ U)
 refine fh (h₀:=X.base) m.ok.mod.kin M.kp (thn (ha pos pins y σ H0 _ m N) λg s ⟨q,H,I,r,h⟩=>⟨I.kIn,?_⟩) he G
 have o:=h ↥12 s.heap.objs.size (I.hok.fresh (fc _)) (I.hok.fresh (ak _)) (aF (iT _))
 have i:=Inv.made (C:=C) I
 have n:jG (V.ref ↥12::q) (b8 ↥12::g):=.cons rfl r
 have E:(b8 ↥12::g).length=ps.length:=by rw [<- n.length];exact F.len _ _ _ _ o
 have l:=L { s with heap:=_ } (b8 ↥12::g) i.kIn (by rw [bj];exact E)
 rw [bj] at l
 refine nj (VC (f:=f) I.kIn M.makes M.init (beq_iff_eq.mp M.fn) (eE (F.run _ X.stack _ _ ⟨b8 ↥12::g,[]⟩ (b8 ↥12::g) _ _ _ (Y.make C g []) (i.env0.make C g []) l n o) λr s' d=>?_))
 cases r with
 | error e =>
  obtain ⟨a,cls,H',rfl,os,b,u,ok,O,j⟩:=d
  exact ac pins σ H' s' a cls ⟨_,_,i,os,b,u,ok,O⟩ j
 | ok fl =>
  cases fl with
  | ret u =>
   obtain ⟨v,H',R,z,P,B⟩:=i.after d
   subst P
   exact ⟨z,⟨V.ref ↥12,H',R,rfl,B⟩⟩
  | next=>exact bM d
  | brk=>exact bM d
  | cont=>exact bM d
theorem xo {f:Str}(K:af) (j:PE X e ta) (G:i5 e f X.env (eval e X.env)=eval e X.env:=by rfl) (I:X.K=K:=by rfl):PE X (.Attribute e f pos) (GK K ta f):=by subst I;exact Gr j G
theorem ut {f:Str}(K:af) (I:PE X o ta) (j:PE X value tv) (G:lQ value (some (.Attribute o f pos')) pos.line X.env=pure false:=by rfl) (U:X.K=K:=by rfl):PS X (.Assign [.Attribute o f pos'] value pos) (E1 K ta tv f):=by subst U;exact G4 I j G
end
theorem Gn {K:af}{xs:List V}{I:TG}{G:TT}{te:TE}{U:St->Hp->Prop}{σ:St}{H:Hp}(Pv:Nat->St->Hp->Prop) (h0:Pv 0 σ H) (hl:∀i σ H,i<=xs.length->Pv i σ H->SqT K H a xs)
  (hs:∀i x σ H,xs[i]? = some x->Pv i σ H->I x σ H λj H3=>G j H3 λok Y=>if ok=true then te j Y λv H5=>∃ys,H5 acc=some (.lst ys)/\ys.length<sizeLine/\Pv (i+1) j ↥19 else Pv (i+1) j Y)
  (hd:∀σ H,Pv xs.length σ H->U σ H):kM acc I G te (Itt K a) U σ H:=by
 refine ⟨λi m σ H=>m=xs.length-i/\i<=xs.length/\Pv i σ H,⟨xs.length,by simp,aB _,h0⟩,λi m σ H z=>?_⟩
 obtain ⟨rfl,hi,p⟩:=z
 have q:=hl i σ H hi p
 by_cases b:i<xs.length
 ·refine .inr ⟨⟨xs,xs[i],q,by simp [b]⟩,Pv (i+1),λd H' c=>⟨xs.length-(i+1),∅,rfl,b,c⟩,λx H' y=>?_⟩
  obtain ⟨e,y⟩:=y
  subst e
  exact hs i x σ _ (y xs q) p
 ·obtain rfl:i=xs.length:=∅
  exact .inl ⟨⟨xs,q,ak _⟩,hd σ H p⟩
theorem Yg {K:af}{acc:Addr}{xs:List V}{g g2:TG}{ti U:TT}{I:TI}{te:TE}{R:Hp->Prop}{σ:St}{H:Hp}(Pv:Nat->St->Hp->Prop) (h0:Pv 0 σ H) (hl:∀i σ H,i<=xs.length->Pv i σ H->SqT K H a xs)
  (hs:∀i x σ H,xs[i]? = some x->Pv i σ H->g x σ H λj H3=>ti j H3 λok G=>if ok=true then I j G λJ2 H5=>kM acc g2 U te J2 (Pv (i+1)) j H5 else Pv (i+1) j G)
  (hd:∀σ H,Pv xs.length σ H->R H) :
  ∃W:Nat->Nat->St->Hp->Prop,↥76/\∀i m Y H',W i m Y H' ->
   ((Itt K a).stop i H'/\R H')\/((Itt K a).go i H'/\∃NX:St->Hp->Prop,↥126 /\
    ∀x H2,(Itt K a).yld i H' x H2->g x Y H2 λj H3=>ti j H3 λok G=>if ok=true then I j G λJ2 H5=>kM acc g2 U te J2 NX j H5 else NX j G):=by
 refine ⟨λi m σ H=>m=xs.length-i/\i<=xs.length/\Pv i σ H,⟨xs.length,by simp,aB _,h0⟩,λi m σ H z=>?_⟩
 obtain ⟨rfl,hi,p⟩:=z
 have q:=hl i σ H hi p
 by_cases b:i<xs.length
 ·refine .inr ⟨⟨xs,xs[i],q,by simp [b]⟩,Pv (i+1),λY H' c=>⟨xs.length-(i+1),∅,rfl,b,c⟩,λx H' y=>?_⟩
  obtain ⟨e,y⟩:=y
  subst e
  exact hs i x σ _ (y xs q) p
 ·obtain rfl:i=xs.length:=∅
  exact .inl ⟨⟨xs,q,ak _⟩,hd σ H p⟩
theorem kX :Acc X λ_ _ _=>False:=λ_ _ _ _ _ _ _ z=>z.elim
end L2
end
section
namespace L2
open PySem.W
inductive gN (K:af) (n:Str) (s:Stmt):Prop
 | mk {f:Addr} {oc kV dc pm cd ct:ai} {od an:Option Addr} {sl:Array (Option ai)} (a:nsIn K mainGlobals n=some (some (.ref f))) (l:K.lookup f=some ⟨oc,od,.func (fnOf n n (qf s) (jS s) (ja s) .none kV dc pm an cd ct),sl⟩) (c:codeIn K cd n=true) (k:keepIn K (.ref f)=true)
inductive gM (K:af) (C:Addr) (m q:Str) (s:Stmt):Prop
 | mk {f:Addr} {oc kV dc pm cd ct:ai} {od an:Option Addr} {sl:Array (Option ai)} (a:findIn K (.ref C) m=some (some (.ref f))) (i:isFn K (.ref f)=true) (l:K.lookup f=some ⟨oc,od,.func (fnOf m q (qf s) (jS s) (ja s) .none kV dc pm an cd ct),sl⟩) (c:codeIn K cd q=true) (k:keepIn K (.ref f)=true)
structure gE (K:af) (n:Str) (C:Addr):Prop where
 e:nsIn K mainGlobals n=some (some (.ref C))
 x:excIn K C [.type "ValueError",.type "Exception",.type "BaseException",.type "object"] "ValueError.__new__" = true
 m:exmOne K (.ref C) (.ref C)=some true
noncomputable abbrev gB (x q:Str) (st:Stmt) (ps:List Str):Prop:=∀(kV doc pm:ai) (d:Option Addr) (b c:ai) (a:List ai),a.length=ps.length->d5 (fnOf x q (qf st) (jS st) (ja st) .none kV doc pm d b c) ⟨a,[]⟩=pure (ps.zip a)
inductive Zt (P:Program) (w:bx) (K:af) (mg:Str->Option ai) (base:Heap):Prop
 | mk {h:Heap} (X:K.In h) (G:h.Ns mainGlobals mg)
section
variable {P:Program}{w:bx}{K:af}{mg:Str->Option ai}{base:Heap}{k:Nat}{x q:Str}{ps:List Str}{sp:Sp}{st:Stmt}{C:Addr}
theorem gN.cal (a:gN K x st) (z:Zt P w K mg base) (j:gB x x st ps)
  (ok:∀{f:Addr} {fd:FuncData},Fun K x x st f fd->FnOk P w K mg base CX0 k f fd ps sp):Cal P w K mg base k x ps sp:=by
 obtain ⟨a,l,c,b⟩:=a
 obtain ⟨X,G⟩:=z
 exact Cal.mk' X G a l c b j ok
theorem gN.calX (a:gN K x st) (z:Zt P w K mg base) (j:gB x x st ps)
  (ok:∀{f:Addr} {fd:FuncData},Fun K x x st f fd->FnOk P w K mg base (CX1 P w) k f fd ps sp):CalX P w K mg base k x ps sp:=by
 obtain ⟨a,l,c,b⟩:=a
 obtain ⟨X,G⟩:=z
 exact CalX.mk' X G a l c b j ok
theorem gM.cal (a:gM K C x q st) (z:Zt P w K mg base) (j:gB x q st ps)
  (ok:∀{f:Addr} {fd:FuncData},Fun K x q st f fd->FnOk P w K mg base CX0 k f fd ps sp):CalM P w K mg base k C x ps sp:=by
 obtain ⟨a,i,l,c,b⟩:=a
 have F:=vV (st:=st) l c b
 exact ⟨_,_,ok F,F.binds j,⟨a,i,b⟩⟩
theorem gM.calX (a:gM K C x q st) (z:Zt P w K mg base) (j:gB x q st ps)
  (ok:∀{f:Addr} {fd:FuncData},Fun K x q st f fd->FnOk P w K mg base (CX1 P w) k f fd ps sp):CalMX P w K mg base k C x ps sp:=by
 obtain ⟨a,i,l,c,b⟩:=a
 have F:=vV (st:=st) l c b
 exact ⟨_,_,ok F,F.binds j,⟨a,i,b⟩⟩
theorem gM.mak (a:gM K C "__init__" q st) (z:Zt P w K mg base) (m:makesIn K C=true) (j:keepIn K (.ref C)=true) (n:nsIn K mainGlobals y=some (some (.ref C))) (I:gB "__init__" q st ps)
  (ok:∀{f:Addr} {fd:FuncData},Fun K "__init__" q st f fd->FnOk P w K mg base (CX1 P w) k f fd ps sp):MakX P w K mg base k C y ps sp:=by
 obtain ⟨a,i,l,c,b⟩:=a
 obtain ⟨X,G⟩:=z
 have F:=vV (st:=st) l c b
 exact ⟨_,_,ok F,F.binds I,⟨m,a,i,j⟩,mg_of X G n⟩
end
theorem bnd1 {ps:List Str}{us:List ai}(j:us.length=1) (h:∀a,d5 fd ⟨[a],[]⟩=pure (ps.zip [a])):d5 fd ⟨us,[]⟩=pure (ps.zip us):=match us,j with | [a],_=>h a
theorem bnd2 {ps:List Str}{us:List ai}(j:us.length=2) (h:∀a b,d5 fd ⟨[a,b],[]⟩=pure (ps.zip [a,b])):d5 fd ⟨us,[]⟩=pure (ps.zip us):=match us,j with | [a,b],_=>h a b
theorem bnd3 {ps:List Str}{us:List ai}(j:us.length=3) (h:∀a b c,d5 fd ⟨[a,b,c],[]⟩=pure (ps.zip [a,b,c])):d5 fd ⟨us,[]⟩=pure (ps.zip us):=match us,j with | [a,b,c],_=>h a b c
theorem bnd4 {ps:List Str}{us:List ai}(j:us.length=4) (h:∀a b c d,d5 fd ⟨[a,b,c,d],[]⟩=pure (ps.zip [a,b,c,d])):d5 fd ⟨us,[]⟩=pure (ps.zip us):=match us,j with | [a,b,c,d],_=>h a b c d
theorem bnd5 {ps:List Str}{us:List ai}(j:us.length=5) (h:∀a b c d e,d5 fd ⟨[a,b,c,d,e],[]⟩=pure (ps.zip [a,b,c,d,e])):d5 fd ⟨us,[]⟩=pure (ps.zip us):=match us,j with | [a,b,c,d,e],_=>h a b c d e
theorem bnd6 {ps:List Str}{us:List ai}(j:us.length=6) (h:∀a b c d e f,d5 fd ⟨[a,b,c,d,e,f],[]⟩=pure (ps.zip [a,b,c,d,e,f])):d5 fd ⟨us,[]⟩=pure (ps.zip us):=match us,j with | [a,b,c,d,e,f],_=>h a b c d e f
end L2
end
section
namespace L2
open PySem.W
end L2
end
section
namespace L2
end L2
namespace L2
section
variable (P:Program) (w:bx)
end
section
variable {P:Program}{w:bx}{H H':Hp}{h h':Heap}{a:Addr}{o:HO}
end
section
variable {P:Program}{w:bx}{H:Hp}{h h':Heap}{x e:Addr}{o':HO}
end
section
variable {fs fs' ex ex':List Addr}{H H1 H2:Hp}{h h1 h2 h':Heap}{a x e:Addr}{o:HO}
end
end L2
namespace L2
section
variable {X:Cx}{pins:List (Addr×Obj)}{σ:List (Option V)}{H H':Hp}{s:Shared}{h':Heap}
end
end L2
namespace L2
section
variable {X:Cx}
variable {a b:Expr}{ta tb:TE}{pos:Pos}
variable {tA tB':TT}{ua:List Expr}
end
end L2
namespace L2
section
variable {X:Cx}{pins:List (Addr×Obj)}{σ:St}{H:Hp}{s:Shared}{a:Addr}{xs ys:List V}
end
section
variable {X:Cx}{pins:List (Addr×Obj)}{σ:St}{H:Hp}{s:Shared}{E:ai->Shared->Prop}
end
section
variable {X:Cx}{st:Stmt}{ua:List Stmt}{t u:TS}{e:Expr}{te:TE}{pos:Pos}
end
section
variable {X:Cx}{pos:Pos}
end
section
variable {X:Cx}{pos:Pos}
end
end L2
namespace L2
section
variable {X:Cx}{tg:Expr}
end
end L2
namespace L2
section
variable {X:Cx}{a b c:Expr}{ta tb tc:TE}{pos:Pos}
end
section
variable {X:Cx}{a b c:Expr}{ta tb tc:TE}{pos:Pos}
end
end L2
namespace L2
section
variable {prog:Program}{w:bx}{A:bC}{E:ai->Shared->Prop}{s:Shared}{K:af}{x dx C f:Addr}{mA:Str->Option ai}{name:Str}{v:ai}
end
section
variable {P:Program}{w:bx}{H H':Hp}{h h':Heap}{a C dx:Addr}{fs fs':List (Str×V)}
end
section
variable {X:Cx}{pins:List (Addr×Obj)}{σ:St}{H:Hp}{s:Shared}{a C dx:Addr}{fs:List (Str×V)}{f:Str}{v:V}{A:bC}{E:ai->Shared->Prop}
end
section
variable {X:Cx}{o e value:Expr}{f:Str}{pos pos' tpos:Pos}{ta tv:TE}
end
section
variable {X:Cx}{pins:List (Addr×Obj)}{σ:St}{H:Hp}{s:Shared}{A:bC}{E:ai->Shared->Prop}{Q:ai->Shared->Prop}{c:ai}{b:Bool}
end
end L2
namespace L2
section
variable {X:Cx}{e:Expr}{es:List Expr}{te:TE}{t:TA}{pos:Pos}
end
section
variable {X:Cx}{pins:List (Addr×Obj)}{σ:St}{H:Hp}{s s':Shared}
end
section
variable {X:Cx}{CX:CXT}{k:Nat}{f C:Addr}{fd:FuncData}{ps:List Str}{sp:Sp}{dvs:List V}{ds:List ai}{E:XK}{x m:Str}{p pos apos:Pos}{e o:Expr}{es:List Expr}{ta:TE}{t:TA}
end
section
variable {X:Cx}{CX:CXT}{k:Nat}{f C:Addr}{fd:FuncData}{ps ks:List Str}{sp:Sp}{E:XK}{x m:Str}{p pos apos kpos:Pos}{e o:Expr}{es:List Expr}{kws:List nk}{te ta:TE}{t tk:TA}{nm:Option Str}
variable {g:List ai->List ai->List ai}{gV:List V->List V->List V}
end
end L2
namespace L2
section
variable {X:Cx}{x:Str}{p pos:Pos}{e:Expr}{es:List Expr}{t:TA}{id T:String}{r:List V->Hp->VK->Prop}
end
end L2
namespace L2
section
variable {κ:Type} [DecidableEq κ]
noncomputable def qE (kvs:List (κ×V)) (k:κ):Option V:=(kvs.find? λa=>decide (a.1=k)).map (·.2)
noncomputable def qK (kvs:List (κ×V)) (k:κ) (v:V):List (κ×V) :=
 if (kvs.any λa=>decide (a.1=k))=true then kvs.map (λa=>if a.1=k then (a.1,v) else a) else kvs++[(k,v)]
theorem vt {k:κ}:qE ([]:List (κ×V)) k=none:=rfl
theorem ur {p:κ×V}{r:List (κ×V)}{k:κ}(e:p.1=k):qE (p::r) k=some p.2:=by simp [qE,fB,e]
theorem vp {p:κ×V}{r:List (κ×V)}{k:κ}(e:¬p.1=k):qE (p::r) k=qE r k:=by simp [qE,fB,e]
theorem J0 (k:κ):∀kvs:List (κ×V),(kvs.any λj=>decide (j.1=k))=(qE kvs k).isSome
 | []=>rfl
 | p::r=>by
  rw [i6]
  by_cases e:p.1=k
  ·simp only [ur e,decide_eq_true e,Bool.true_or,Option.isSome_some]
  ·rw [vp e,decide_eq_false e,Bool.false_or];exact J0 k r
theorem yW (kvs:List (κ×V)) (k:κ) (v:V):(qK kvs k v).length<=kvs.length+1:=by
 unfold qK
 split
 ·rw [ag];omega
 ·rw [ar,bo,sQ];omega
theorem yq {k:κ}(v:V) (h:qE kvs k=none):qK kvs k v=kvs++[(k,v)]:=by
 unfold qK
 rw [J0,h]
 exact if_neg ⋯
theorem yT.isSome_eq (r:yT o u):o.isSome=u.isSome:=by
 cases o with
 | none=>cases u with
  | none=>rfl
  | some _=>exact (show False from r).elim
 | some _=>cases u with
  | none=>exact (show False from r).elim
  | some _=>rfl
theorem yT.getD {d:V}(r:yT o u) (rd:jE d d'):jE (o.getD d) (u.getD d'):=by
 cases o with
 | none=>cases u with
  | none=>exact rd
  | some _=>exact (show False from r).elim
 | some _=>cases u with
  | none=>exact (show False from r).elim
  | some _=>exact r
theorem KV.val {kvs:List (κ×V)}(r:KV kvs vs) (k:κ):yT (qE kvs k) (ph vs k):=by
 unfold KV at r
 induction r with
 | nil=>exact dH
 | @cons p q ps qs h t c =>
  obtain ⟨h1,h2⟩:=h
  by_cases e:p.1=k
  ·have a:q.1=k:=h1.symm.trans e
   have b:ph (q::qs) k=some q.2:=by simp [ph,fB,a]
   rw [ur e,b];exact h2
  ·have a:¬q.1=k:=λz=>e (h1.trans z)
   have b:ph (q::qs) k=ph qs k:=by simp [ph,fB,a]
   rw [vp e,b];exact c
theorem KV.any {kvs:List (κ×V)}{vs:List (κ×ai)}(r:KV kvs vs) (k:κ):(kvs.any λj=>decide (j.1=k))=vs.any λj=>decide (j.1=k):=by
 unfold KV at r
 induction r with
 | nil=>rfl
 | cons h t a=>rw [i6,i6,a,h.1]
theorem KV.repl {kvs:List (κ×V)}(r:KV kvs vs) (k:κ) (G:jE y u) :
  KV (kvs.map λj=>if j.1=k then (j.1,y) else j) (vs.map λj=>if j.1=k then (j.1,u) else j):=by
 unfold KV at r ⊢
 induction r with
 | nil=>exact .nil
 | @cons p q ps qs h t a =>
  rw [aQ,aQ]
  refine .cons ?_ a
  obtain ⟨h1,h2⟩:=h
  by_cases e:p.1=k
  ·rw [if_pos e,if_pos (h1.symm.trans e)];exact ⟨h1,G⟩
  ·rw [if_neg e,if_neg (λz=>e (h1.trans z))];exact ⟨h1,h2⟩
theorem KV.put {kvs:List (κ×V)}(r:KV kvs vs) (k:κ) (j:jE y u):KV (qK kvs k y) (A8 vs k u):=by
 unfold qK A8
 rw [r.any k]
 by_cases e:(vs.any λa=>decide (a.1=k))=true
 ·rw [if_pos e,if_pos e];exact r.repl k j
 ·rw [if_neg e,if_neg e];exact cE r ⟨rfl,j⟩
theorem KV.length {kvs:List (κ×V)}(r:KV kvs vs):kvs.length=vs.length:=aP r
end
theorem wT {k:Key}(r:jE (kV k) u):(jH P w).is k u=true:=by
 cases k with
 | inl i=>obtain ⟨t,e⟩:=(show ∃t,u=mL i t from r);subst e;exact XN P w i t
 | inr x=>obtain ⟨t,e⟩:=(show ∃t,u=oZ x t from r);subst e;exact QN P w x t
theorem Jo :∀{ks:List Key}{us:List ai},jG (ks.map kV) us->ItemsAre (jH P w) ks us
 | [],_,r=>by rw [lM] at r;cases r;exact .nil
 | k::ks,_,r=>by
  rw [aQ] at r
  cases r with
  | cons h t=>exact .cons (wT h) (Jo t)
noncomputable abbrev KT (H:Hp):List (List Key×V)->List ↥93->Prop:=cW λp q=>p.1=q.1/\H q.2.1=some (.tup (p.1.map kV))/\jE p.2 q.2.2
theorem KT.val {kvs:List (List Key×V)}{xs:List ↥93}(r:KT H kvs xs) (k:List Key):yT (qE kvs k) ((sM xs k).map (·.2)):=by
 induction r with
 | nil=>exact dH
 | @cons p q ps qs h t c =>
  obtain ⟨h1,_,h2⟩:=h
  by_cases e:p.1=k
  ·have a:q.1=k:=h1.symm.trans e
   have b:sM (q::qs) k=some q.2:=by simp [sM,fB,a]
   rw [ur e,b];exact h2
  ·have a:¬q.1=k:=λz=>e (h1.trans z)
   have b:sM (q::qs) k=sM qs k:=by simp [sM,fB,a]
   rw [vp e,b];exact c
theorem KT.repl {kvs:List (List Key×V)}{xs:List ↥93}(r:KT H kvs xs) (k:List Key) (G:jE y u) :
  KT H (kvs.map λj=>if j.1=k then (j.1,y) else j) (xs.map (putAt k u)):=by
 induction r with
 | nil=>exact .nil
 | @cons p q ps qs h t a =>
  rw [aQ,aQ]
  refine .cons ?_ a
  obtain ⟨h1,h2,b⟩:=h
  unfold putAt
  by_cases e:p.1=k
  ·rw [if_pos e,if_pos (h1.symm.trans e)];exact ⟨h1,h2,G⟩
  ·rw [if_neg e,if_neg (λz=>e (h1.trans z))];exact ⟨h1,h2,b⟩
theorem KT.put {kvs:List (List Key×V)}{xs:List ↥93}(r:KT H kvs xs) (k:List Key) {b:Addr}(G:H b=some (.tup (k.map kV))) (j:jE y u) :
  KT H (qK kvs k y) (storedH xs k b u):=by
 have e:(kvs.any λa=>decide (a.1=k))=(sM xs k).isSome:=by
  rw [J0,(r.val k).isSome_eq,mq]
 unfold qK storedH
 rw [e]
 by_cases q:(sM xs k).isSome=true
 ·rw [if_pos q,if_pos q];exact r.repl k j
 ·rw [if_neg q,if_neg q];exact cE r ⟨rfl,G,j⟩
theorem KT.keeps {H':Hp}{kvs:List (List Key×V)}{xs:List ↥93}(r:KT H kvs xs) (j:∀b ys,H b=some (.tup ys)->H' b=some (.tup ys)):KT H' kvs xs :=
 Paired.mapP r λ_ _ z=>⟨z.1,j _ _ z.2.1,z.2.2⟩
section
variable {P:Program}{w:bx}{H:Hp}{h:Heap}{a:Addr}
theorem Wo (ok:HOk P w H h) (e:Rd H a u):qq P w H h a u:=e.ok ok
theorem uo (ok:HOk P w H h) (e:Rd H a (.dK kvs)):kvs.length<=sizeLine/\(a == eG)=false/\∃vs,KV kvs vs/\h.DictOf (jH P w) a vs :=
 show qq P w H h a (.dK kvs) from Wo ok e
theorem V5 (ok:HOk P w H h) (e:H a=some (.dK kvs)):kvs.length<=sizeLine/\(a == eG)=false/\∃vs,KV kvs vs/\h.DictOf (jH P w) a vs:=uo ok (.inl e)
theorem wx {ks:List Key}(ok:HOk P w H h) (e:H a=some (.tup (ks.map kV))):(mO (jH P w)).is h ks a:=by
 obtain ⟨_,b,r,o,h1,h2,n,c⟩:=(show qq P w H h a (.tup (ks.map kV)) from ok a _ e)
 exact ⟨o,b.toArray,n,h1,h2,c,by simpa using Jo r⟩
theorem kI (ok:HOk P w H h) (e:Rd H a (.dT kvs)):kvs.length<=sizeLine/\(a == eG)=false /\
  ∃xs,KT H kvs xs/\h.DictOfH (mO (jH P w)) a xs:=by
 obtain ⟨z,y,xs,r,o,es,i,h1,h2,g,f,d⟩:=(show qq P w H h a (.dT kvs) from Wo ok e)
 refine ⟨z,y,xs,r,o,es,i,h1,h2,g,f,λx hx=>?_,d⟩
 have all:∀{l:List (List Key×V)} {m:List ↥93},KT H l m->∀x∈m,(mO (jH P w)).is h x.1 x.2.1:=by
  intro l m q
  induction q with
  | nil=>intro x hx;exact nomatch hx
  | @cons p q ps qs b t c =>
   intro x hx
   rcases List.mem_cons.mp hx with e | hx
   ·subst e
    exact wx ok (by rw [<- b.1];exact b.2.1)
   ·exact c x hx
 exact all r x hx
theorem GT (ok:HOk P w H h) (e:H a=some (.dT kvs)):kvs.length<=sizeLine/\(a == eG)=false /\
  ∃xs,KT H kvs xs/\h.DictOfH (mO (jH P w)) a xs:=kI ok (.inl e)
end
noncomputable def qQ (H:Hp) (a:Addr) (y:V) (r:Option V):Prop :=
 (∃kvs k,Rd H a (.dK kvs)/\y=kV k/\r=qE kvs k)\/∃kvs k b,Rd H a (.dT kvs)/\y = .ref b/\H b=some (.tup (k.map kV))/\r=qE kvs k
noncomputable def wt (H:Hp) (a:Addr) (y v:V) (H':Hp):Prop :=
 (∃kvs k,H a=some (.dK kvs)/\y=kV k/\kvs.length<sizeLine/\H'=upd H a (.dK (qK kvs k v))) \/
 ∃kvs k b,H a=some (.dT kvs)/\y = .ref b/\H b=some (.tup (k.map kV))/\kvs.length<sizeLine/\H'=upd H a (.dT (qK kvs k v))
theorem qQ.k {H:Hp}{a:Addr}{kvs:List (Key×V)}{k:Key}(e:H a=some (.dK kvs)):qQ H a (kV k) (qE kvs k):=.inl ⟨kvs,k,.inl e,rfl,rfl⟩
theorem qQ.t {H:Hp}{a b:Addr}{kvs:List (List Key×V)}{k:List Key}(e:H a=some (.dT kvs)) (j:H b=some (.tup (k.map kV))):qQ H a (.ref b) (qE kvs k):=.inr ⟨kvs,k,b,.inl e,rfl,j,rfl⟩
theorem wt.k {H:Hp}{a:Addr}{kvs:List (Key×V)}{k:Key}(e:H a=some (.dK kvs)) (j:kvs.length<sizeLine):wt H a (kV k) v (upd H a (.dK (qK kvs k v))):=.inl ⟨kvs,k,e,rfl,j,rfl⟩
theorem wt.t {H:Hp}{a b:Addr}{kvs:List (List Key×V)}{k:List Key}(e:H a=some (.dT kvs)) (G:H b=some (.tup (k.map kV))) (j:kvs.length<sizeLine) :
  wt H a (.ref b) v (upd H a (.dT (qK kvs k v))):=.inr ⟨kvs,k,b,e,rfl,G,j,rfl⟩
section
variable {X:Cx}{pins:List (Addr×Obj)}{σ:St}{H:Hp}{s:Shared}{a:Addr}{y v:V}{u r:ai}{o:Option V}{A:bC}{E:ai->Shared->Prop}
theorem Inv.big (I:Inv X pins σ H s):eG<s.heap.objs.size:=by
 have h:mainGlobals<s.heap.objs.size:=(I.mod.glob.keeps I.bk).lt
 exact Nat.lt_trans ⋯ h
theorem Yt {Q:ai->Shared->Prop}(U:A.units+1<cLine) (I:Inv X pins σ H s) (g:qQ H a y (some v)) (G:jE y u) (h:∀j s',Inv X pins σ H s'->jE v j->Q j s') :
  ax ↥6 A (nv (.ref a) u) Q E s:=by
 rcases g with ⟨kvs,k,e,i,l⟩ | ⟨kvs,k,b,e,i,x,l⟩
 ·subst i
  obtain ⟨z,t,q,d,m⟩:=uo I.hok e
  obtain ⟨j,f,c⟩:=yT.some_of (v:=v) (o:=ph q k) (by rw [l];exact d.val k)
  exact wpAny_getItem_of (wT G) m.mapOf f (h j _ (I.tok _) c)
 ·subst i
  cases (show u=b8 b from G)
  obtain ⟨z,t,xs,d,m⟩:=kI I.hok e
  obtain ⟨j,f,c⟩:=yT.some_of (v:=v) (o:=(sM xs k).map (·.2)) (by rw [l];exact d.val k)
  obtain ⟨p,r,n⟩:=Option.map_eq_some_iff.mp f
  refine wpAny_getItem_heap (fq U) (wx I.hok x) m r ?_
  rw [n]
  exact h j _ (I.tok _) c
theorem d_in {Q:ai->Shared->Prop}(G:A.units+1<cLine) (I:Inv X pins σ H s) (g:qQ H a y o) (j:jE y u) (h:∀s',Inv X pins σ H s'->Q (.bool o.isSome) s') :
  ax ↥6 A (cg .In u (.ref a)) Q E s:=by
 rcases g with ⟨kvs,k,e,f,l⟩ | ⟨kvs,k,b,e,f,m,l⟩
 ·subst f
  obtain ⟨z,d,n,c,i⟩:=uo I.hok e
  refine wpAny_in_of (wT j) d i.mapOf ?_
  rw [<- (c.val k).isSome_eq,<- l]
  exact h _ (I.tok _)
 ·subst f
  cases (show u=b8 b from j)
  obtain ⟨z,d,xs,c,i⟩:=kI I.hok e
  refine wpAny_in_heap (fq G) (wx I.hok m) d i ?_
  have q:=(c.val k).isSome_eq
  rw [mq] at q
  rw [<- q,<- l]
  exact h _ (I.tok _)
theorem UW {Q:ai->Shared->Prop}(G:A.units+1<cLine) (I:Inv X pins σ H s) (g:qQ H a y o) (j:jE y u) (h:∀s',Inv X pins σ H s'->Q (.bool (!o.isSome)) s') :
  ax ↥6 A (cg .NotIn u (.ref a)) Q E s:=by
 rcases g with ⟨kvs,k,e,f,l⟩ | ⟨kvs,k,b,e,f,m,l⟩
 ·subst f
  obtain ⟨z,d,n,c,i⟩:=uo I.hok e
  refine wpAny_notIn_of (wT j) d i.mapOf ?_
  rw [<- (c.val k).isSome_eq,<- l]
  exact h _ (I.tok _)
 ·subst f
  cases (show u=b8 b from j)
  obtain ⟨z,d,xs,c,i⟩:=kI I.hok e
  refine wpAny_notIn_heap (fq G) (wx I.hok m) d i ?_
  have q:=(c.val k).isSome_eq
  rw [mq] at q
  rw [<- q,<- l]
  exact h _ (I.tok _)
theorem JP {t':Nat}(I:Inv X pins σ H s) (G:Mut (H a)) (U:fg a s.heap h') (Y:∃q,h'.get? a=some q) (new:qq X.prog X.w (upd H a j) h' a j) :
  Inv X pins σ (upd H a j) { s with heap:=h',toks:=t' } :=
 I.write (x:=a) (e:=a) G (.inl rfl) (λb q c z=>(U.2 b c).trans z) Y new
theorem ZB {h':Heap}{kvs:List (Key×V)}(z:kvs.length<=sizeLine) (G:(a == eG)=false) (j:KV kvs vs) (dd:h'.DictOf (jH P w) a vs) :
  qq P w H' h' a (.dK kvs):=⟨z,G,vs,j,dd⟩
theorem YE {Q:Unit->Shared->Prop}(Y:A.units+1<cLine) (I:Inv X pins σ H s) (g:wt H a y v H') (G:jE y u) (U:jE v r) (h:∀s',Inv X pins σ H' s'->Q () s') :
  ax ↥6 A (setItem (.ref a) u r) Q E s:=by
 rcases g with ⟨kvs,k,e,p,l,t⟩ | ⟨kvs,k,b,e,p,C,l,t⟩
 ·subst p t
  obtain ⟨z,o,D,d,x⟩:=V5 I.hok e
  have j:D.length<=sizeLine:=by rw [<- d.length];exact z
  have n:(qK kvs k v).length<=sizeLine:=by have:=yW kvs k v;omega
  refine wpAny_setItem_pairs (hsz:=j) (wT G) x λh' f m=>h _ ?_
  have J:∃q,h'.get? a=some q:=let ⟨q,_,_,i,_⟩:=f;⟨q,i⟩
  exact JP I (by rw [e];exact dH) m J (ZB n o (d.put k U) f)
 ·subst p t
  cases (show u=b8 b from G)
  obtain ⟨z,o,xs,d,x⟩:=GT I.hok e
  have j:xs.length<=sizeLine:=by rw [<- aP d];exact z
  have n:(qK kvs k v).length<=sizeLine:=by have:=yW kvs k v;omega
  refine wpAny_setItem_heap (hsz:=j) (fq Y) (wx I.hok C) x λh' f m=>h _ ?_
  obtain ⟨q,es,N,i,h2,M,L,_,K⟩:=f
  refine JP I (by rw [e];exact dH) m ⟨q,i⟩ ⟨n,o,_,(d.put k C U).keeps λc ys B=>?_,q,es,N,i,h2,M,L,K⟩
  rw [j8 (jm B e ↥91)]
  exact B
end
section
variable {X:Cx}{pins:List (Addr×Obj)}{σ:St}{H:Hp}{s:Shared}{a:Addr}{kvs:List (Key×V)}{k:Key}{u:ai}{A:bC}{E:ai->Shared->Prop}
end
noncomputable def Ea (i:Expr):Prop:=∀a b,oJ i false a b=operate [a,b] (nv a b)
theorem UO {prog:Program}{w:bx}{A:bC}{E:ai->Shared->Prop}{s:Shared}{env:Env}{value j:Expr}{pos:Pos}{T id:String}{Q:ai->Shared->Prop}
  (U:nu (.type T) "__getitem__" = pure (some (.builtin id))) (I:Ea j)
  (h:ax (ay prog w) A (eval value env) (λo G=>ax (ay prog w) A (eval j env) (λi s₂=>s₂.TypeIs o T/\ax (ay prog w) A (nv o i) Q E s₂) E G) E s) :
  ax (ay prog w) A (eval (.Subscript value j pos) env) Q E s:=by
 refine pR (bf h (λo G e=>bf e (λi s₂ a=>?_) λ_ _ x=>x) λ_ _ x=>x)
 obtain ⟨c,a⟩:=a
 unfold mF
 refine aa ?_
 rw [getitemInPython_of_ne c.not_modules]
 refine aa (wpAny_specialOf c U ?_)
 have fin:ax (ay prog w) A (oJ j false o i) (λr b=>ax (ay prog w) A (letTemporaryGo value o r >>= λ_=>pure r) Q E b) E s₂:=by
  rw [I o i]
  exact wpAny_operating (bf a (λr b d=>aa (wpAny_letTemporaryGo (wpAny_pure d))) λ_ _ x=>x)
 first
  | exact wpAny_pure (aa fin)
  | exact aa (wpAny_pure (aa fin))
  | exact aa fin
theorem QC (I:Inv X pins σ H s) (g:qQ H a y o):s.TypeIs (.ref a) "dict":=by
 rcases g with ⟨kvs,k,e,_,_⟩ | ⟨kvs,k,b,e,_,_,_⟩
 ·obtain ⟨_,_,d,_,c⟩:=uo I.hok e
  exact c.typeIs
 ·obtain ⟨_,_,xs,_,c⟩:=kI I.hok e
  exact c.typeIs
inductive tDGetI (Q:VK) (x:V) (y:V) (H2:Hp):Prop
 | mk (a:_) (v:_) (_:x = .ref a) (_:qQ H2 a y (some v)) (_:Q v H2)
noncomputable def Wu (td ty:TE):TE:=λσ H Q=>td σ H λx H1=>ty σ H1 λy H2=>tDGetI Q x y H2
inductive tDInI (Q:VK) (y:V) (x:V) (H2:Hp):Prop
 | mk (a:_) (o:_) (_:x = .ref a) (_:qQ H2 a y o) (_:Q (.bl o.isSome) H2)
noncomputable def tDIn (ty td:TE):TE:=λσ H Q=>ty σ H λy H1=>td σ H1 λx H2=>tDInI Q y x H2
inductive tDNotInI (Q:VK) (y:V) (x:V) (H2:Hp):Prop
 | mk (a:_) (o:_) (_:x = .ref a) (_:qQ H2 a y o) (_:Q (.bl (!o.isSome)) H2)
noncomputable def Up (ty td:TE):TE:=λσ H Q=>ty σ H λy H1=>td σ H1 λx H2=>tDNotInI Q y x H2
inductive sDPutI (D:Ends) (σ:St) (v:V) (x:V) (y:V) (H3:Hp):Prop
 | mk (a:_) (H4:_) (_:x = .ref a) (_:wt H3 a y v H4) (_:D.nx σ H4)
noncomputable def Ed (td ty tv:TE):TS:=λD σ H=>tv σ H λv H1=>td σ H1 λx H2=>ty σ H2 λy a=>sDPutI D σ v x y a
section
variable {X:Cx}{o i e value:Expr}{pos pos' tpos:Pos}{td ty tv:TE}
theorem jW (G:X.A.units+1<cLine) (Y:PE X o td) (hi:PE X i ty) (U:Ea i):PE X (.Subscript o i pos) (Wu td ty):=by
 intro pins s σ H Q I h
 refine UO PySem.F.slot_dict_getitem.lookup U (thn (Y pins s σ H _ I h) λu s1 ⟨x,H1,l,e,j⟩=>thn (hi pins s1 σ H1 _ l j) λq p ⟨y,H2,c,d,a,v,ex,g,f⟩=>?_)
 subst ex
 obtain rfl:u=b8 a:=e
 exact ⟨QC c g,Yt G c g d λm n k b=>⟨v,H2,k,b,f⟩⟩
theorem Gm (j:X.A.units+1<cLine) (hi:PE X i ty) (G:PE X o td):PC X .In i o (tDIn ty td):=by
 intro pins s σ H Q I h
 refine thn (hi pins s σ H _ I h) λq s1 ⟨y,H1,m,b,e⟩=>thn (G pins s1 σ H1 _ m e) λu p ⟨x,H2,l,c,a,f,ex,g,d⟩=>?_
 subst ex
 obtain rfl:u=b8 a:=c
 exact d_in j l g b λn k=>⟨.bl f.isSome,H2,k,rfl,d⟩
theorem Ye (j:X.A.units+1<cLine) (hi:PE X i ty) (G:PE X o td):PC X .NotIn i o (Up ty td):=by
 intro pins s σ H Q I h
 refine thn (hi pins s σ H _ I h) λq s1 ⟨y,H1,m,b,e⟩=>thn (G pins s1 σ H1 _ m e) λu p ⟨x,H2,l,c,a,f,ex,g,d⟩=>?_
 subst ex
 obtain rfl:u=b8 a:=c
 exact UW j l g b λn k=>⟨.bl (!f.isSome),H2,k,rfl,d⟩
theorem yt (U:X.A.units+1<cLine) (ho:PE X o td) (hi:PE X i ty) (G:PE X value tv) (Y:lQ value (some (.Subscript o i pos')) pos.line X.env=pure false) :
  PS X (.Assign [.Subscript o i pos'] value pos) (Ed td ty tv):=by
 intro pins s σ H D I h
 refine wpAny_Assign_Subscript (thn ↥107 λr s1 ⟨v,H1,p,e,k⟩=>thn (ho pins s1 σ H1 _ p k) λu b ⟨x,H2,n,d,j⟩=>thn (hi pins b σ H2 _ n j) λz w ⟨y,B,m,c,a,q,ex,g,f⟩=>?_) Y
 subst ex
 obtain rfl:u=b8 a:=d
 exact YE U m g c e λt l=>⟨σ,q,l,f⟩
end
theorem QU (h:Heap) (j:eG<h.objs.size):qq P w H (h.push { cls:=.type "dict",data:=.dict #[] }) h.objs.size (.dK []) :=
 ⟨aB _,beq_eq_false_iff_ne.mpr (cV (aF j)),[],.nil,sR h⟩
theorem Vv (h:Heap) (j:eG<h.objs.size):qq P w H (h.push { cls:=.type "dict",data:=.dict #[] }) h.objs.size (.dT []) :=
 ⟨aB _,beq_eq_false_iff_ne.mpr (cV (aF j)),[],.nil,_,#[],0,aE _ rfl,⟨rfl,rfl,rfl⟩,rfl,rfl,eV⟩
noncomputable def Gp:TE:=λ_ H Q=>∀p,H p=none->Q (.ref p) (upd H p (.dK []))
noncomputable def WL:TE:=λ_ H Q=>∀p,H p=none->Q (.ref p) (upd H p (.dT []))
section
variable {X:Cx}{pos:Pos}
theorem uz:PE X (.Dict [] [] pos) Gp:=λpins s σ H Q I h =>
 sx ⟨.ref s.heap.objs.size,_,I.laid (a:=s.heap.objs.size) (o:=.dK []) (t':=s.toks) (λ_ _ q=>ah _ q) (ak _) (QU s.heap I.big),rfl,h _ (I.hok.fresh (ak _))⟩
theorem Vq:PE X (.Dict [] [] pos) WL:=λpins s σ H Q I h =>
 sx ⟨.ref s.heap.objs.size,_,I.laid (a:=s.heap.objs.size) (o:=.dT []) (t':=s.toks) (λ_ _ q=>ah _ q) (ak _) (Vv s.heap I.big),rfl,h _ (I.hok.fresh (ak _))⟩
end
noncomputable def Z9:List (TE×TE)->St->Hp->(List (V×V)->Hp->Prop)->Prop
 | [],_,H,Q=>Q [] H
 | (tk,tv)::r,σ,H,Q=>tk σ H λx H1=>tv σ H1 λy H2=>Z9 r σ H2 λps a=>Q ((x,y)::ps) a
noncomputable abbrev VV:List (V×V)->List (ai×ai)->Prop:=cW λp q=>jE p.1 q.1/\jE p.2 q.2
noncomputable def PPs (X:Cx) (pos:Pos) (G:List (Option Expr)) (j:List Expr) (I:List (TE×TE)):Prop :=
 ∀(pins:List (Addr×Obj)) (s:Shared) (σ:St) (H:Hp) (Q:List (V×V)->Hp->Prop),Inv X pins σ H s->Z9 I σ H Q ->
  ax ↥6 X.A (evalPairs (pairTrees G j X.env pos)) (λa s'=>∃ps H',Inv X pins σ H' s'/\VV ps a/\Q ps H') X.xe s
theorem Uf {pos:Pos}:PPs X pos [] [] []:=λpins s σ H Q I h=>pairTrees_nil_walk ⟨[],H,I,.nil,h⟩
theorem kJ {pos:Pos}{k:Expr}(Y:PE X k tk) (G:PE X v tv) (U:PPs X pos ks vs j) :
  PPs X pos (some k::ks) (v::vs) ((tk,tv)::j):=λpins s σ H Q I h =>
 pairTrees_cons_walk (thn (Y pins s σ H _ I h) λu s1 ⟨x,H1,m,d,g⟩=>thn (G pins s1 σ H1 _ m g) λo b ⟨y,H2,l,c,f⟩ =>
  thn (U pins b σ H2 _ l f) λws p ⟨ps,n,i,a,e⟩=>⟨(x,y)::ps,n,i,.cons ⟨d,c⟩ a,e⟩)
noncomputable def xh (kvs j:List (Key×V)):List (Key×V):=j.foldl (λacc a=>qK acc a.1 a.2) kvs
theorem KV.merge:∀{j:List (Key×V)}{rs:List (Key×ai)}{kvs:List (Key×V)}{vs:List (Key×ai)},KV j rs->KV kvs vs->KV (xh kvs j) (merged vs rs):=by
 intro j rs kvs vs r
 unfold KV at r
 induction r generalizing kvs vs with
 | nil=>intro q;exact q
 | @cons p q ps qs h t b =>
  intro a
  have e:KV (qK kvs p.1 p.2) (A8 vs q.1 q.2):=by
   have:=a.put p.1 h.2
   rw [<- h.1];exact this
  exact b e
theorem zX:∀(j kvs:List (Key×V)),(xh kvs j).length<=kvs.length+j.length
 | [],kvs=>by show kvs.length<=kvs.length+0;omega
 | p::r,kvs=>by
  have h1:=zX r (qK kvs p.1 p.2)
  have h2:=yW kvs p.1 p.2
  show (xh (qK kvs p.1 p.2) r).length<=_
  rw [bo];omega
theorem kL :∀{kvs:List (Key×V)}{ws:List (ai×ai)},VV (kvs.map λj=>(kV j.1,j.2)) ws->∃rs,Carries (jH P w) ws rs/\KV kvs rs
 | [],_,r=>by rw [lM] at r;cases r;exact ⟨[],dH,.nil⟩
 | p::kvs,_,r=>by
  rw [aQ] at r
  cases r with
  | @cons a b f bs h t =>
   obtain ⟨rs,c,q⟩:=kL (P:=P) (w:=w) t
   obtain ⟨e,d⟩:=b
   exact ⟨(p.1,d)::rs,⟨wT h.1,rfl,c⟩,.cons ⟨rfl,h.2⟩ q⟩
noncomputable def GI (j:List (TE×TE)):TE:=λσ H Q=>∀p,H p=none->Z9 j σ (upd H p (.dK [])) λps H2=>H2 p=some (.dK [])/\∃kvs:List (Key×V),ps=kvs.map (λa=>(kV a.1,a.2))/\kvs.length<=15/\Q (.ref p) (upd H2 p (.dK (xh [] kvs)))
theorem UL {pos:Pos}(h:PPs X pos j G Y) (U:j.all (·.isSome)=true) (hl:j.length=G.length) (h0:j≠[])
  (ab:j.length<=15):PE X (.Dict j G pos) (GI Y):=by
 intro pins s σ H Q I q
 have p:=I.hok.fresh (ak s.heap.objs.size)
 have x:=I.laid (a:=s.heap.objs.size) (o:=.dK []) (h':=s.heap.push { cls:=.type "dict",data:=.dict #[] }) (t':=s.toks) (λ_ _ q=>ah _ q) (ak _) (QU s.heap I.big)
 refine wpAny_Dict_walk (knd:=jH X.prog X.w) U hl h0 ab (thn (h pins _ σ _ _ x (q _ p)) λws A ⟨ps,H2,f,d,e,kvs,u,B,k⟩=>?_)
 subst u
 obtain ⟨rs,c,g⟩:=kL (P:=X.prog) (w:=X.w) d
 obtain ⟨z,t,y,i,v⟩:=V5 f.hok e
 cases i
 refine ⟨rs,c,v,λh' b m=>⟨.ref s.heap.objs.size,_,?_,rfl,k⟩⟩
 have l:(xh [] kvs).length<=sizeLine:=by
  have h1:=zX kvs []
  rw [sQ] at h1
  rw [bE];omega
 have r:∃q,h'.get? s.heap.objs.size=some q:=let ⟨q,_,_,n,_⟩:=b;⟨q,n⟩
 exact JP f (by rw [e];exact dH) m r (ZB l t (g.merge .nil) b)
structure M2 (X:Cx) (o:Expr) (m:Str) (apos:Pos) (e f:Expr) (cpos:Pos):Prop where
 base:i5 o m X.env (eval o X.env)=eval o X.env
 few:((dh cpos (aU [e,f] X.env)).all (λx=>!x.1) && (lV cpos (fQ [] X.env)).all (λx=>x.1.isSome)
  && decide (([e,f]:List Expr).length+([]:List nk).length+(if ([]:List nk).isEmpty then 0 else 1)<30))=true
 line:(apos.endLine == cpos.line)=true
 trees:dh cpos (aU [e,f] X.env)=[↥39,(false,eval f X.env)]
noncomputable def IsD (H:Hp) (a:Addr):Prop:=(∃kvs,Rd H a (.dK kvs))\/∃kvs,Rd H a (.dT kvs)
theorem G3 (I:Inv X pins σ H s) (d:IsD H a) :
  s.TypeIs (.ref a) "dict" /\ (∀b,b8 a = .ref b->∃j,s.heap.get? b=some j/\j.dict=none)/\(a == eG)=false:=by
 rcases d with ⟨kvs,e⟩ | ⟨kvs,e⟩
 ·obtain ⟨_,f,g,_,c⟩:=uo I.hok e
  refine ⟨c.typeIs,λb q=>?_,f⟩
  cases q
  obtain ⟨j,_,_,h1,h2,_⟩:=c
  exact ⟨j,h1,h2.2.1⟩
 ·obtain ⟨_,f,xs,_,c⟩:=kI I.hok e
  refine ⟨c.typeIs,λb q=>?_,f⟩
  cases q
  obtain ⟨j,_,_,h1,h2,_⟩:=c
  exact ⟨j,h1,h2.2.1⟩
section
variable {X:Cx}{pins:List (Addr×Obj)}{σ:St}{H:Hp}{s:Shared}{a:Addr}{y d:V}{u r:ai}{o:Option V}{A:bC}{E:ai->Shared->Prop}
theorem WP {Q:ai->Shared->Prop}(Y:A.units+1<cLine) (I:Inv X pins σ H s) (g:qQ H a y o) (U:jE y u) (rd:jE d r) (h:∀G s',Inv X pins σ H s'->jE (o.getD d) G->Q G s') :
  ax ↥6 A (call (.builtin "dict.get") [.ref a,u,r]) Q E s:=by
 rcases g with ⟨kvs,k,e,j,l⟩ | ⟨kvs,k,b,e,j,m,l⟩
 ·subst j
  obtain ⟨z,i,n,c,f⟩:=uo I.hok e
  refine call_meetsIn iP f.typeIs nQ (mX _ _ _) (meets_dict_get_default (jH X.prog X.w) a (wT U) i r) ⟨_,f.mapOf,h _ _ (I.tok _) ?_⟩
  rw [l]
  exact (c.val k).getD rd
 ·subst j
  cases (show u=b8 b from U)
  obtain ⟨z,i,xs,c,f⟩:=kI I.hok e
  refine call_meetsIn iP f.typeIs nQ (mX _ _ _) (meetsH_dict_get_default (mO (jH X.prog X.w)) a b i r) ⟨fq Y,k,xs,wx I.hok m,f,h _ _ (I.tok _) ?_⟩
  rw [l]
  exact (c.val k).getD rd
end
noncomputable def Wx (td ty tx:TE):TE:=λσ H Q=>td σ H λx H1=>∃a,x = .ref a/\IsD H1 a/\ty σ H1 λy H2=>tx σ H2 λz b=>∃o,qQ b a y o/\Q (o.getD z) b
section
variable {X:Cx}{o e f:Expr}{apos cpos:Pos}{td ty tx:TE}
theorem QQ (G:X.A.units+1<cLine) (U:PE X o td) (he:PE X e ty) (Y:PE X f tx) (m:M2 X o "get" apos e f cpos):PE X (.Call (.Attribute o "get" apos) [e,f] [] cpos) (Wx td ty tx):=by
 intro pins s σ H Q I h
 refine wpAny_Call_method m.base m.few m.line PySem.F.plainAttrs_dict iP PySem.F.type_dict_get (thn (U pins s σ H _ I h) λu s1 ⟨x,H1,c,p,a,ex,d,t⟩=>?_)
 subst ex
 obtain rfl:u=b8 a:=p
 obtain ⟨j,i,_⟩:=G3 c d
 refine ⟨j,i,?_⟩
 rw [m.trees]
 refine nB rfl (iY (lW (thn (he pins s1 σ H1 _ c t) λL k ⟨y,H2,B,n,r⟩ =>
  lW (thn (Y pins k σ H2 _ B r) λM J ⟨z,C,w,l,K,g,q⟩=>rE ?_))))
 exact WP G w g n l λD E v b=>⟨_,C,v,b,q⟩
end
section
variable {X:Cx}{pins:List (Addr×Obj)}{σ:St}{H:Hp}{s:Shared}{a:Addr}{kvs:List (Key×V)}{A:bC}{E:ai->Shared->Prop}
end
section
variable {X:Cx}{pins:List (Addr×Obj)}{σ:St}{H:Hp}{s:Shared}{a:Addr}{y:V}{u:ai}{A:bC}{E:ai->Shared->Prop}
end
end L2
namespace Att
open PySem PySem.W PySem.Calls PyProof.Rows
section
variable {prog:Program}{w:bx}{A:bC}{E:ai->Shared->Prop}{s:Shared}{K:Frag}
end
end Att
namespace L2
end L2
namespace L2
end L2
namespace L2
section
variable {P:Program}{w:bx}{K:af}{mg:Str->Option ai}{base:Heap}
end
section
variable {X:Cx}
end
section
variable {κ:Type} [DecidableEq κ]
theorem uK:∀{l:List κ}{k:κ},l.Nodup->¬k∈l->(l++[k]).Nodup
 | [],k,_,_=>by simp
 | a::r,k,h,b=>by
  obtain ⟨h1,h2⟩:=List.nodup_cons.mp h
  show (a::(r++[k])).Nodup
  refine List.nodup_cons.mpr ⟨λm=>?_,uK h2 λm=>b (List.mem_cons.mpr (lr m))⟩
  rcases List.mem_append.mp m with q | q
  ·exact h1 q
  ·exact b (List.mem_cons.mpr (aR (List.mem_singleton.mp q).symm))
end
end L2
end
section
namespace L2
open PySem.W
section
variable {prog:Program}{w:bx}{A:bC}{E:ai->Shared->Prop}{s:Shared}
theorem Xm {its:List ai}{κ:di}{lt:Nat->Nat->Bool}{G:List Nat->Prop}{Q:ai->Shared->Prop}(h64:its.length<64)
  (hk:2<=its.length->∀h',↥13->∀Q':di->Shared->Prop,Q' κ { s with heap:=h' }->ax (ay prog w) A.in1.in1 (Ag its.toArray) Q' (λ_ _=>False) { s with heap:=h' })
  (hc:∀h',↥13->∀i j,i<its.length->j<its.length->∀Q':Bool->Shared->Prop,Q' (lt i j) { s with heap:=h' } ->
   ax (ay prog w) A.in1.in1 ↥114 Q' (λ_ _=>False) { s with heap:=h' })
  (hs:2<=its.length->xc lt its.length (Af its.length) λp=>qr its.length p/\G p.toList) (h1:its.length<2->G ↥95)
  (h:∀(ix:List Nat) (h':Heap) (n:Nat),ix.Perm ↥95->G ix->↥13 ->
   h'.get? (s.heap.objs.size)=some (b7 "list" (↥40).toArray n)->Q (.ref (s.heap.objs.size)) { s with heap:=h' }) :
  ax (ay prog w) A.in1 (sV its >>= λl=>i8 [l] (call (.builtin "list.sort") [l] []) >>= λ_=>ret l) ↥32 E s:=by
 refine aa (eJ ?_ (by rw [bE];omega))
 have ho:(s.heap.push ↥17).get? (s.heap.objs.size)=some ↥17:=aE _ rfl
 have keep:∀b o,s.heap.get? b=some o->(s.heap.push ↥17).get? b=some o:=λb o q=>by
  exact ah _ q
 show ax _ _ _ _ _ { s with heap:=s.heap.push ↥17 }
 refine aa (bZ (dj m6 ⟨_,ho,rfl⟩ ly ?body (oO _)))
 case body =>
  generalize hh0:s.heap.push ↥17=h0 at ho keep
  generalize ha:s.heap.objs.size=a at ho h
  have aNew:∀b o,s.heap.get? b=some o->b≠a:=λb o q=>by have:=aw q;rw [<- ha];exact aF this
  show ax (ay prog w) A.in1.in1 (Builtin.«list.sort» ⟨[.ref a],[]⟩) _ _ { s with heap:=h0 }
  rw [og]
  have hal:a<h0.objs.size:=aw ho
  refine aa (lN ho rfl ?_)
  refine aa ↥103
  obtain ⟨e1,ho1⟩:∃e1,(h0.update a ↥71).get? a=some ↥118:=⟨_,dJ ho (λ_=>#[])⟩
  refine aa (dQ ho1 rfl ?_)
  refine aa ↥96
  refine aa (eJ ?_ (aB _))
  refine bZ ?_
  have ho6:((↥2).push ↥68).get? a=some ↥118:=by
   rw [bX _ _ _ (by rw [lZ,cS];exact aF (bW hal)),bX _ _ _ (by rw [cS];exact aF hal)]
   exact ho1
  have keep6:∀b o,s.heap.get? b=some o->((↥2).push ↥68).get? b=some o:=λb o q =>
   ah _ (ah _ ↥89)
  show ax (ay prog w) A.in1.in1 _ _ _ { s with heap:=(↥2).push ↥68 }
  generalize (↥2).push ↥68=h6 at ho6 keep6
  dsimp only
  have fin:∀(ix:List Nat),ix.Perm ↥95->G ix->∀out:Array ai,out=(↥40).toArray ->
    ∃v,oP (Ah aV) = .done (.ret v)/\ax (ay prog w) A.in1 (do let _ <- pure v;ret (b8 a)) ↥32 E { s with heap:=h6.update a (aS λ_=>out) }:=λix hp hg out ho'=>by
   refine ⟨_,rfl,aa ↥111⟩
   subst ho'
   exact h ix _ _ hp hg ↥113 (dJ ho6 λ_=>_)
  by_cases h2:its.toArray.size<2
  ·rw [if_pos h2,if_pos h2]
   refine aa ↥46
   rw [lA]
   refine aa ↥46
   dsimp only
   refine aa (dQ ho6 rfl ?_)
   rw [yL]
   refine aa (cH ho6 rfl ?_ (aB _) (by rw [au,bE];omega))
   simp only [bne_self_eq_false,cF,if_false]
   rw [au] at h2
   exact wpAny_pure (fin _ (iB _) (h1 h2) _ (by rw [yE]))
  ·rw [if_neg h2,if_neg h2]
   rw [au] at h2
   refine aa ↥42
   obtain ⟨rfl,rfl⟩:=q
   refine aa (bf (kat_run (ks:=its) (vs:=its) (κ:=κ') (G:=λp s'=>(qr its.length p/\G p.toList)/\s'={ s with heap:=h6 }) (Q:=λst' s'=>∃p:Array Nat,fO st'=p.map (aI ↥41)/\eS st'=none/\(qr its.length p/\G p.toList)/\s'={ s with heap:=h6 })
    rfl ∅ h64 (λp st' s' a1 a2 a3 a4=>⟨p,a2,a3,a4⟩) (xc.wp (I:=λs'=>s'={ s with heap:=h6 }) (λi j C s' hi hj hI hC=>?_) (λp s' hp hI=>⟨hp,hI⟩) (hs ∅) rfl)) ?_ λ_ _ e=>e)
   ·subst hI
    exact hc h6 keep6 i j hi hj C (hC _ rfl)
   ·rintro ⟨⟨⟩,st'⟩ s' ⟨p,har,hf,⟨hP,hG⟩,rfl⟩
    dsimp only
    have hout:=tG (ks:=its) (vs:=its) rfl har
    have hz:(nM (p.toList.map λi=>its.getD i aV)).size=its.length:=by rw [au,ag,aG,hP.size]
    rw [hout]
    refine aa (dQ ho6 rfl ?_)
    refine aa (cH ho6 rfl ?_ (aB _) (by rw [hz,bE];omega))
    rw [hf]
    simp only [bne_self_eq_false,cF,if_false]
    exact wpAny_pure (fin p.toList ↥63 hG _ rfl)
theorem XY {v:ai}{Q:ai->Shared->Prop}(j:ax (ay prog w) A.in1 (collect v) (λits s1=>ax (ay prog w) A.in1 (sV its >>= λl=>i8 [l] (call (.builtin "list.sort") [l] []) >>= λ_=>ret l) ↥32 E s1) E s) :
  ax (ay prog w) A (call ↥128 [v]) Q E s:=by
 refine fZ oN nJ nK (rK _) ?_
 unfold Builtin.«sorted»
 refine aa (m:=pT "sorted" 1 1 _) ↥46
 exact aa j
end
section
variable {X:Cx}
theorem Inv.laidN {s:Shared}{h':Heap}{a:Addr}{t':Nat}(I:Inv X pins σ H s) (k:∀b u,s.heap.get? b=some u->h'.get? b=some u) (j:s.heap.get? a=none) (new:H a=none->qq X.prog X.w (upd H a o) h' a o):H a=none/\Inv X pins σ (upd H a o) { s with heap:=h',toks:=t' }:=by
 have d:H a=none:=by
  cases q:H a with
  | none=>rfl
  | some u =>
   obtain ⟨g,e⟩:=kC (I.hok a u q)
   rw [j] at e
   cases e
 have ne:∀{b u},s.heap.get? b=some u->b≠a:=λe z=>by rw [z,j] at e;cases e
 refine ⟨d,I.un ⟨λb u q _ _ _=>k b u q,λb u q _ _ _=>⟨u.slots,k b u q⟩,λb u q n _=>by rw [j8 (ne q)];exact n,λb u q _=>⟨u,k b u q⟩,λb xs q=>by rw [j8 (j4 q d)];exact q,λb u xs q=>by rw [j8 (j4 q d)];exact q,λb ps q=>⟨#[],by rw [j8 (j4 q d),q];simp⟩⟩ λb u e=>?_⟩
 by_cases f:b=a
 ·subst f;rw [j9] at e;cases e;exact new d
 ·rw [j8 f] at e
  exact (I.hok b u e).stay (λc v _ q=>k c v q) (λc q=>by rw [j8 (j4 q d)];exact q) λc xs q=>by rw [j8 (j4 q d)];exact q
theorem Q8 (K:af) (ap:X.calm=true) (hK:X.K=K:=by rfl):xf X ↥128 (λxs H Q=>∃(p:Addr) (kvs:List (Key×V)) (ns:List Int),xs=[.ref p]/\H p=some (.dK kvs)/\kvs.map (·.1)=ns.map fe/\ns.length<64 /\
  ∀(l:Addr) H' (U:List Int),H l=none->H' l=some (.lst (U.map V.int))->jo H H'->U.Perm ns->U.Pairwise (· <= ·)->Q (.ref l) H'):=by
 subst hK
 intro pins s σ H xs us Q I r h
 obtain ⟨p,kvs,ns,rfl,ac,D,az,k⟩:=h
 obtain ⟨u,rfl,ru⟩:=vq r
 cases ru
 obtain ⟨hz,lo,A,P,dd⟩:=V5 I.hok ac
 obtain ⟨ep,as⟩:=dd.dictAt
 have Z:A.length=ns.length:=by
  have f:kvs.length=A.length:=aP P
  have g:=congrArg oI D
  rw [ag,ag] at g
  omega
 refine XY (kdu_collect (kdl_dict (knd:=jH X.prog X.w) (kvs:=A) (ep:=ep) lo) (I.ok.hd ap) as (ff (jj ∅)) λh1 tk acc E y=>?_)
 have O:acc.toList.length=ns.length:=by rw [aG,y.1,Z]
 have item:∀i,i<acc.toList.length->∃t,acc.toList.getD i aV = .int (ns.getD i 0) t:=λi hi=>by
  have N:i<acc.size:=by rw [aG] at hi;exact hi
  obtain ⟨key,x,hx,an⟩:=y.2 i acc[i] (aZ N)
  have M:i<kvs.length:=by
   have f:kvs.length=A.length:=aP P
   omega
  obtain ⟨q,hq,f,_⟩:=Paired.get P (ae M)
  rw [hx] at hq
  cases hq
  have g:(kvs.map (·.1))[i]? = some key:=by rw [aH,ae M];exact congrArg some f
  have L:i<ns.length:=∅
  rw [D,aH,ae L] at g
  cases g
  obtain ⟨t,et⟩:=mh an
  refine ⟨t,?_⟩
  rw [ao,Array.getElem?_toList,aZ N,et,ao,ae L]
  rfl
 generalize acc.toList=c at O item
 refine Xm (s:={ s with heap:=h1,toks:=tk }) (κ:=oneType') (lt:=ltK UA λi=>ns.getD i 0) (G:=λd=>(d.map λi=>ns.getD i 0).Pairwise UA.kle) ∅ (λh2 h' m Q' q=>?_) (λh' m i j hi Y Q' q=>?_) (λh2=>?_) (λh1=>?_) λd h' n B hg m hn=>?_
 ·refine kas_kind (T:=.type "int") h2 (λv S=>?_) rfl rfl q
  obtain ⟨i,hi,rfl⟩:=List.mem_iff_getElem.mp S
  obtain ⟨t,f⟩:=item i hi
  have e3:c[i] = .int (ns.getD i 0) t:=by rw [<- f];simp [hi]
  rw [e3]
  exact pG rfl
 ·obtain ⟨t,f⟩:=item i hi
  obtain ⟨u,g⟩:=item j Y
  rw [f,g]
  exact kat_lt_int q
 ·exact kY ∅ λp' hP hS=>⟨hP,hS.pairwise hP.size⟩
 ·have C:c.length=0\/c.length=1:=∅
  rcases C with z | z
  ·rw [z];exact fM
  ·rw [z];exact dw _ _
 ·have am:s.heap.get? h1.objs.size=none:=by
   cases q:s.heap.get? h1.objs.size with
   | none=>rfl
   | some u=>exact absurd (aw (E _ _ q)) (cX _)
  have S:jG ↥133 (d.map λi=>c.getD i aV):=by
   have hb:∀i∈d,i<c.length:=λi hi=>by have:=B.mem_iff.mp hi;simpa using this
   clear B hg hn
   induction d with
   | nil=>exact .nil
   | cons i d ih =>
    obtain ⟨t,e⟩:=item i (hb i aM)
    exact .cons ⟨t,e⟩ (ih λj Y=>hb j (aK _ Y))
  have al:((aW c.length).map λi=>ns.getD i 0)=ns:=by
   apply mV
   ·simp [O]
   ·intro i h1 h2
    simp [h2]
  have ab: (↥133).length<=sizeLine:=by
   rw [ag,ag,B.length_eq,bQ]
   exact aN (by omega:c.length<=1000) ⋯
  obtain ⟨hf,J⟩:=Inv.laidN (o:=.lst ↥133) (t':=tk) I (λb o e=>m b o (E b o e)) am λ_=>⟨ab,_,n,S,hn⟩
  refine ⟨.ref _,upd H h1.objs.size (.lst ↥133),J,rfl,k _ _ _ hf j9 (jo.new hf) ?_ ?_⟩
  ·have:=B.map λi=>ns.getD i 0
   rw [al] at this
   exact this
  ·exact List.Pairwise.imp (R:=UA.kle) (λ{a b} z=>U0 z) hg
end
end L2
end
section
namespace L2
open PySem.W
theorem Inv.freeze {X:Cx}{s:Shared}{a:Addr}{kvs:List (Key×V)}(I:Inv X pins σ H s) (e:H a=some (.dK kvs)) (j:s.heap.get? a=some o):Inv X pins σ (upd H a ↥84) s:=by
 refine I.un (t':=s.toks) ⟨λb u q _ _ _=>q,λb u q _ _ _=>⟨u.slots,q⟩,λb u q n _=>?_,λb u q _=>⟨u,q⟩,λb xs q=>?_,λb u xs q=>?_,λb ps q=>⟨#[],?_⟩⟩ λb u q=>?_
 ·rw [j8 (λz=>by rw [z,e] at n;cases n)];exact n
 ·rw [j8 (jm q e ↥44)];exact q
 ·rw [j8 (jm q e ↥44)];exact q
 ·rw [j8 (jm q e ↥44),q];simp
 ·by_cases d:b=a
  ·subst d
   rw [j9] at q
   cases q
   exact ⟨j,I.hok _ _ e⟩
  ·rw [j8 d] at q
   exact (I.hok b u q).stay (λc v _ q=>q) (λc q=>by rw [j8 (jm q e ↥44)];exact q) λc xs q=>by rw [j8 (jm q e ↥44)];exact q
noncomputable def Itd (a:Addr) (o:Obj) (kvs:List (Key×V)):It :=
 ⟨λi H=>H a=some ↥84/\i<kvs.length,λi H x H'=>H'=H/\∃q,kvs[i]? = some q/\x=kV q.1,λi H=>H a=some ↥84/\kvs.length<=i⟩
theorem relK {k:Key}(h:(jH P w).is k v=true):jE (kV k) v:=by
 cases k with
 | inl i=>exact mh h
 | inr x=>exact pj h
theorem V2 {K:af}{a it:Addr}{vs:List (Key×ai)}{ep:Nat}(kv:KV kvs vs) (HD:∀h:Heap,h.get? a=some o->h.DictAt (jH P w) a vs ep):Turn P w K tg (Itd a o kvs) [it] it (λi h=>h.IsKeyIter it a i vs.length ep) where
 mem:=by simp
 obj:=λi h st b hb=>by
  have e:b=it:=by simpa using hb
  subst e
  obtain ⟨o,e,c,d⟩:=st
  exact ⟨o,e,λv z=>by rw [d] at z;cases z⟩
 keep:=λi h h' st k=>st.at λo e=>k it (by simp) o e
 item:=by
  intro X hP hw hK hc i pins s σ H E I hf st hg
  subst hP hw hK
  obtain ⟨hq,hi⟩:=hg
  have hat:=HD s.heap (I.hok _ _ hq).1
  have hl:kvs.length=vs.length:=aP kv
  obtain ⟨f0,f1,f2,f3,f4,f5⟩:=hf it (by simp)
  obtain ⟨⟨k,x⟩,hx,ek,_⟩:=Paired.get kv (ae hi)
  refine wpAny_pyNext_dict_item st hat hx λkey h' hkey st' sb=>?_
  have I1:Inv X pins σ H { s with heap:=h' }:=I.turned (t':=s.toks) (λb o hb e=>(sb.2 b hb).trans e) f0 f1 f3 f4 f5
  obtain ⟨ob,e,c,d⟩:=id st'
  exact ⟨key,rfl,QP (s:={ s with heap:=h' }) e c d ⋯ ⟨kV k,H,I1,relK hkey,⟨rfl,_,ae hi,by rw [show (kvs[i]'hi).1=k from ek]⟩,st',λb hb=>(hf b hb).1⟩⟩
 done:=by
  intro X hP hw hK hc i pins s σ H E I hf st hg
  subst hP hw hK
  obtain ⟨hq,hi⟩:=hg
  have hat:=HD s.heap (I.hok _ _ hq).1
  have hl:kvs.length=vs.length:=aP kv
  obtain ⟨f0,f1,f2,f3,f4,f5⟩:=hf it (by simp)
  exact wpAny_pyNext_dict_end (I.ok.hd hc) st hat ↥94 λh' eb=>⟨rfl,I.turned (t':=s.toks) ↥123 f0 f1 f3 f4 f5⟩
 self:=λ_ _ _ _ _ st h=>wpAny_pyIter_keyiter st h
noncomputable def iDic (td:TE):TI:=λσ H R=>td σ H λx H1=>∃a kvs,x = .ref a/\((H1 a=some (.dK kvs)/\∀o,R (Itd a o kvs) (upd H1 a ↥84))\/∃o,H1 a=some ↥84/\R (Itd a o kvs) H1)
theorem Q9 (G:PE X l td):PI X tg l (iDic td):=by
 intro pins s σ H R I h
 refine thn ↥107 λv s1 ⟨x,H1,k,y,a,kvs,e,q⟩=>?_
 subst e
 cases y
 have d:∀{H2:Hp} {o:Obj},Inv X pins σ H2 s1->H2 a=some ↥84->R (Itd a o kvs) H2->ax ↥6 X.A (oG (.ref a)) (PIE X pins σ tg R) X.xe s1:=λ{H2 o} f t z=>by
  have r:=(f.hok _ _ t).1
  obtain ⟨B,lo,m,p,j⟩:=uo f.hok (.inr ⟨o,t⟩)
  obtain ⟨ep,n,es,h1,c⟩:=j.dictAt
  rw [r] at h1
  cases h1
  have u:∀h:Heap,h.get? a=some o->h.DictAt (jH X.prog X.w) a m ep:=λh e=>⟨o,es,e,c⟩
  refine wpAny_pyIter_dict lo (u _ r) ?_
  refine ⟨s1.heap.objs.size,[s1.heap.objs.size],_,_,H2,rfl,f.kept (t':=s1.toks) λb o e=>ah _ e,V2 p u,⟨_,aE _ rfl,rfl,rfl⟩,λb C=>?_,z⟩
  have e:b=s1.heap.objs.size:=by simpa using C
  subst e
  exact f.fpOk (ak _) (f.hok.fresh (ak _))
 rcases q with ⟨g,i⟩ | ⟨o,g,i⟩
 ·obtain ⟨B,lo,m,p,j⟩:=uo k.hok (.inl g)
  obtain ⟨ep,n,es,h1,c⟩:=j.dictAt
  exact d (k.freeze g h1) j9 (i n)
 ·exact d k g i
theorem QS {kvs:List (Key×V)}{g:TG}{tb:TS}{D:Ends}{σ:St}{H:Hp}(Pv:Nat->St->Hp->Prop) (h0:Pv 0 σ H) (Y:∀i σ H,i<=kvs.length->Pv i σ H->H a=some ↥84)
  (U:∀i q σ H,kvs[i]? = some q->Pv i σ H->g (kV q.1) σ H λj H2=>tb { D with nx:=Pv (i+1),ct:=Pv (i+1),bk:=D.nx } j H2) (hd:∀σ H,Pv kvs.length σ H->D.nx σ H) :
  ∃W:Nat->Nat->St->Hp->Prop,↥76/\∀i m σ H,W i m σ H ->
   ((Itd a o kvs).stop i H/\D.nx σ H)\/((Itd a o kvs).go i H/\∃N:St->Hp->Prop,↥73/\∀x H',(Itd a o kvs).yld i H x H'->g x σ H' λj H2=>tb { D with nx:=N,ct:=N,bk:=D.nx } j H2):=by
 refine ⟨λi m σ H=>m=kvs.length-i/\i<=kvs.length/\Pv i σ H,⟨kvs.length,by simp,aB _,h0⟩,?_⟩
 rintro i m σ H ⟨rfl,hi,p⟩
 have q:=Y i σ H hi p
 by_cases b:i<kvs.length
 ·refine .inr ⟨⟨q,b⟩,Pv (i+1),λG H' c=>⟨kvs.length-(i+1),∅,rfl,b,c⟩,λx H' y=>?_⟩
  obtain ⟨e,z,d,ex⟩:=y
  subst e ex
  exact U i z σ _ d p
 ·obtain rfl:i=kvs.length:=∅
  exact .inl ⟨⟨q,ak _⟩,hd σ H p⟩
theorem YC {kvs:List (Key×V)}{g:TG}{ti:TT}{te:TE}{R:Hp->Prop}{σ:St}{H:Hp}(Pv:Nat->St->Hp->Prop) (h0:Pv 0 σ H) (hl:∀i σ H,i<=kvs.length->Pv i σ H->H a=some ↥84)
  (hs:∀i q σ H,kvs[i]? = some q->Pv i σ H->g (kV q.1) σ H λj Y=>ti j Y λok G=>if ok=true then te j G λv H5=>∃ys,H5 acc=some (.lst ys)/\ys.length<sizeLine/\Pv (i+1) j ↥19 else Pv (i+1) j G)
  (hd:∀σ H,Pv kvs.length σ H->R H) :
  ∃W:Nat->Nat->St->Hp->Prop,↥76/\∀i m I H',W i m I H' ->
   ((Itd a o kvs).stop i H'/\R H')\/((Itd a o kvs).go i H'/\∃U:St->Hp->Prop,↥36 /\
    ∀x H2,(Itd a o kvs).yld i H' x H2->g x I H2 λj Y=>ti j Y λok G=>if ok=true then te j G λv H5=>∃ys,H5 acc=some (.lst ys)/\ys.length<sizeLine/\U j ↥19 else U j G):=by
 refine ⟨λi m σ H=>m=kvs.length-i/\i<=kvs.length/\Pv i σ H,⟨kvs.length,by simp,aB _,h0⟩,?_⟩
 rintro i m σ H ⟨rfl,hi,p⟩
 have q:=hl i σ H hi p
 by_cases b:i<kvs.length
 ·refine .inr ⟨⟨q,b⟩,Pv (i+1),λI H' c=>⟨kvs.length-(i+1),∅,rfl,b,c⟩,λx H' y=>?_⟩
  obtain ⟨e,z,d,ex⟩:=y
  subst e ex
  exact hs i z σ _ d p
 ·obtain rfl:i=kvs.length:=∅
  exact .inl ⟨⟨q,ak _⟩,hd σ H p⟩
end L2
end
section
namespace L2
open PySem.W
theorem Yz {K:af}(it:Addr) (lo:Int) (n:Nat):Turn P w K tg (Itr lo n) [it] it (λi h=>IsLongIter h it (lo+(i:Nat)*1) ((n:Int)-(i:Nat)) 1) where
 mem:=by simp
 obj:=λi h st b hb=>by
  have e:b=it:=by simpa using hb
  subst e
  exact ⟨_,st,λv z=>by
   have z':oH _=mQ v:=z
   cases z'⟩
 keep:=λi h h' st k=>k it (by simp) _ st
 item:=by
  intro X hP hw hK hc i pins s σ H E I hf st hg
  subst hP hw hK
  obtain ⟨f0,f1,f2,f3,f4,f5⟩:=hf it (by simp)
  have W:=Walks.longrange (prog:=X.prog) (w:=X.w) (I.ok.hd hc) it lo 1 n
  refine W.item i s _ _ hg st λv h' tk hv st' kk=>?_
  obtain ⟨t,rfl⟩:=hv
  have I1:Inv X pins σ H { s with heap:=h',toks:=tk }:=I.turned (λb o hb e=>kk b o (by simpa using hb) e) f0 f1 f3 f4 f5
  refine ⟨_,rfl,QP (s:={ s with heap:=h',toks:=tk }) (n:="longrange_iterator") st' rfl rfl ⋯ ⟨.int (lo+i),H,I1,⟨t,?_⟩,⟨rfl,rfl⟩,st',λb hb=>(hf b hb).1⟩⟩
  rw [Int.mul_one]
 done:=by
  intro X hP hw hK hc i pins s σ H E I hf st hg
  subst hP hw hK
  obtain ⟨f0,f1,f2,f3,f4,f5⟩:=hf it (by simp)
  exact wpAny_pyNext_long_end (I.ok.hd hc) st (by have:n<=i:=hg;omega) λh' eb=>⟨rfl,I.turned (t':=s.toks) ↥123 f0 f1 f3 f4 f5⟩
 self:=λ_ _ _ _ _ st h=>wpAny_pyIter_longiter st h
section
variable {X:Cx}{tg:Expr}
theorem Yi {R:It->Hp->Prop}{lo hi:Int}{t:Tok}{tk:Nat}(I:Inv X pins σ H s)
  (q:R (Itr lo (hi-lo).toNat) H):ax ↥6 X.A (oG ↥18) (PIE X pins σ tg R) E { s with heap:=s.heap.push { cls:=.type "range",data:=.fields #[.int lo t,.int hi u,.int 1 v] },toks:=tk }:=by
 have a:Inv X pins σ H { s with heap:=s.heap.push { cls:=.type "range",data:=.fields #[.int lo t,.int hi u,.int 1 v] },toks:=tk }:=I.kept λb o e=>ah _ e
 have g:lo+((0:Nat):Int)*1=lo:=by simp
 have f:(((hi-lo).toNat:Nat):Int)-((0:Nat):Int)=mR lo hi 1:=by rw [tR];split <;> omega
 have d:∀b∈[(↥9).objs.size],_:=λb h=>by
  have e:b=(↥9).objs.size:=by simpa using h
  subst e
  exact a.fpOk (ak _) (a.hok.fresh (ak _))
 by_cases c:Builtin.Range.small lo hi 1=true
 ·refine pO (sI ..) c ?_
  refine ⟨(↥9).objs.size,[(↥9).objs.size],_,_,H,rfl,
   a.kept (t':=tk) λb o e=>ah _ e,kQ _ lo (hi-lo).toNat,?_,d,q⟩
  show sH _ _ (lo+((0:Nat):Int)*1) ((((hi-lo).toNat:Nat):Int)-((0:Nat):Int)) 1
  rw [g,f]
  exact aE _ rfl
 ·refine wpAny_pyIter_longrange (sI ..) (by simpa using c) ?_
  refine ⟨(↥9).objs.size,[(↥9).objs.size],_,_,H,rfl,
   a.kept (t':=tk) λb o e=>ah _ e,Yz _ lo (hi-lo).toNat,?_,d,q⟩
  show IsLongIter _ _ (lo+((0:Nat):Int)*1) ((((hi-lo).toNat:Nat):Int)-((0:Nat):Int)) 1
  rw [g,f]
  exact aE _ rfl
inductive iRngLI (R:It->Hp->Prop) (vs:List V) (H1:Hp):Prop
 | mk (i j:Int) (_:vs=[.int i,.int j]) (_:R (Itr i (j-i).toNat) H1)
noncomputable def GU (ta:TA):TI:=λσ H R=>ta σ H λa H1=>iRngLI R a H1
theorem Jp {a b:Expr}{p pos:Pos}(hg:Gl X "range") (Y:X.mg "range" = none) (ha:PA X [a,b] ta) (U:aU [a,b] X.env=[(false,eval a X.env),(false,eval b X.env)]:=by rfl) (G:aU [b] X.env=[(false,eval b X.env)]:=by rfl) :
  PI X tg (.Call (.Name "range" p) [a,b] [] pos) (GU ta):=by
 intro pins s σ H R I h
 refine Am (yG I hg Y t6 (cx (thn ↥52 λm s1 ⟨l,H1,k,d,g⟩=>?_) (by rw [U,G]) (by rw [G];rfl)))
 obtain ⟨i,j,e,q⟩:=g
 subst e
 cases d with
 | cons r c =>
  cases c with
  | cons f c =>
   cases c
   obtain ⟨t,rfl⟩:=r
   obtain ⟨n,rfl⟩:=f
   exact call_range_2 (Yi k q)
end
end L2
end
section
namespace L2
open PySem.W
noncomputable def Fz (a:Addr) (kvs:List (Key×V)) (o:Obj) (H j:Hp):Prop:=j a=some ↥84/\(j=H\/(H a=some (.dK kvs)/\j=upd H a ↥84))
theorem Fz.at {a:Addr}{kvs:List (Key×V)}(f:Fz a kvs o H j) (h:H c=some u) (n:c≠a):j c=some u:=by
 rcases f.2 with rfl | ⟨_,rfl⟩
 ·exact h
 ·rw [j8 n];exact h
theorem Jx {g:TG}{tb:TS}{D:Ends}{σ:St}{H:Hp}(h:Rd H a (.dK kvs)) (Pv:Obj->Nat->St->Hp->Prop) (h0:∀o H4,Fz a kvs o H H4->Pv o 0 σ H4) (hl:∀o i σ H,i<=kvs.length->Pv o i σ H->H a=some ↥84)
  (hs:∀o i q σ H,kvs[i]? = some q->Pv o i σ H->g (kV q.1) σ H λI H2=>tb { D with nx:=Pv o (i+1),ct:=Pv o (i+1),bk:=D.nx } I H2) (hd:∀o σ H,Pv o kvs.length σ H->D.nx σ H) :
  ∃G j,V.ref a = .ref G/\((H G=some (.dK j)/\∀o,∃W:Nat->Nat->St->Hp->Prop,(∃m,W 0 m σ (upd H G (.frz o (.dK j))))/\∀i m σ H,W i m σ H ->
   ((Itd G o j).stop i H/\D.nx σ H)\/((Itd G o j).go i H/\∃N:St->Hp->Prop,(∀U H',N U H'->∃Y,Y<m/\W (i+1) Y U H')/\∀x H',(Itd G o j).yld i H x H'->g x σ H' λI H2=>tb { D with nx:=N,ct:=N,bk:=D.nx } I H2)) \/
   ∃o,H G=some (.frz o (.dK j))/\∃W:Nat->Nat->St->Hp->Prop,↥76/\∀i m σ H,W i m σ H ->
   ((Itd G o j).stop i H/\D.nx σ H)\/((Itd G o j).go i H/\∃N:St->Hp->Prop,(∀U H',N U H'->∃Y,Y<m/\W (i+1) Y U H')/\∀x H',(Itd G o j).yld i H x H'->g x σ H' λI H2=>tb { D with nx:=N,ct:=N,bk:=D.nx } I H2)):=by
 rcases h with h | ⟨o,h⟩
 ·exact ⟨a,kvs,rfl,.inl ⟨h,λo=>QS (a:=a) (o:=o) (kvs:=kvs) (Pv o) (h0 o _ ⟨j9,.inr ⟨h,rfl⟩⟩) (hl o) (hs o) (hd o)⟩⟩
 ·exact ⟨a,kvs,rfl,.inr ⟨o,h,QS (a:=a) (o:=o) (kvs:=kvs) (Pv o) (h0 o _ ⟨h,.inl rfl⟩) (hl o) (hs o) (hd o)⟩⟩
end L2
end
section
namespace L2
open PySem.W
section
variable {prog:Program}{w:bx}{A:bC}{E:ai->Shared->Prop}{s:Shared}
theorem Wd:nu ↥136 "keys" = pure none:=by rw [typeLookup_type,builtinLookup_eq_fast];kernel_rfl
theorem YZ {a:Addr}{o:Obj}{k:Nat}{Q:Option ai->Shared->Prop}(G:s.heap.get? a=some o) (U:o.cls = .type "list") (j:o.data = .seq xs k) (I:o.dict=none) (Y:A.handled=none)
  (h:∀h' tk,↥13->Q none { s with heap:=h',toks:=tk }):ax (ay prog w) A (getAttr? (.ref a) "keys") Q E s:=by
 obtain ⟨c,p,dat,m⟩:=o
 simp only at U j I
 subst U j I
 obtain ⟨n,g,d,tk,os⟩:=s
 have l:∀f,(⟨n,g,d,f,os⟩:Shared).TypeIs (.ref a) "list":=λ_=>⟨_,G,rfl⟩
 have y:=sub_AttributeError
 have x:=F.slot_list_getattribute.lookup
 have v:=F.slot_list_getattribute.bind (.ref a)
 have u:=am_list_getattr_none
 unfold getAttr? getAttrBy? getAttrBy
 repeat (any_goals (first | assumption | exact l _ | ((with_reducible show ax _ _ (call (tY "list.__getattribute__") _ _) _ _ _);refine nE F.slot_list_getattribute (l _) am_entry_list_getattribute (F.args_list_getattribute_2 _ _) (meets_getattribute_miss_list a xs k m "keys" _ Wd ↥31 ⋯) ⟨G,Y,λh' f e i=>?_⟩) | wp_step))
 obtain ⟨r,q,t⟩:=i.there
 show ax _ _ (pX _ _ _ _ _ _ _) _ _ _
 unfold pX
 repeat (any_goals (first | assumption | wp_step))
 exact h h' f i.of.keeps
end
theorem wI:entryFor table "dict.update.loop" = some Builtin.«dict.update.loop»:=entryFor_of_tree (by kernel_rfl)
theorem zQ:plainId "dict.update.loop" = true:=by decide +kernel
section
variable {prog:Program}{w:bx}{A:bC}{R:pQ->Shared->Prop}{d it l:Addr}{items:Array ai}{qs:List (Key×ai×ai)}
noncomputable def Qa (d it:Addr) (items:Array ai) (qs:List (Key×ai×ai)) (h:Heap):Prop:=∀(i:Nat) (q:Key×ai×ai),qs[i]? = some q->∃b:Addr,items[i]? = some (.ref b)/\b≠d/\b≠it/\h.IsTuple b #[q.2.1,q.2.2]
theorem Qa.keep {h':Heap}(x:Qa d it items qs h) (k:∀b o,b≠d->b≠it->h.get? b=some o->h'.get? b=some o):Qa d it items qs h':=λi q c=>by
 obtain ⟨b,h1,h2,a,o,e,r⟩:=x i q c
 exact ⟨b,h1,h2,a,o,k b o h2 a e,r⟩
theorem Yu (hh:A.handled=none) (Y:l≠d) (U:l≠it) (G:d≠it) (hsz:qs.length<=sizeLine) (hk:∀q∈qs,(jH prog w).is q.1 q.2.1=true) (nd:(qs.map (·.1)).Nodup) (hn:items.size=qs.length) :
  ∀(n i:Nat) (s:Shared),qs.length-i=n->i<=qs.length->s.heap.IsListIter it l i->s.heap.IsList l items->Qa d it items qs s.heap->s.heap.DictOf (jH prog w) d ((qs.take i).map λq=>(q.1,q.2.2)) ->
   (∀h' tk,(∀b o,b≠d->b≠it->s.heap.get? b=some o->h'.get? b=some o)->h'.DictOf (jH prog w) d (qs.map λq=>(q.1,q.2.2))->R (.ok (.ret .none)) { s with heap:=h',toks:=tk }) ->
   dO (ay prog w) A (.builtin "dict.update.loop" ⟨[.ref d,.ref it,cv i,.none],[]⟩) R s:=by
 have L:A.in1.handled=none:=by simp [hh]
 intro n
 induction n with
 | zero =>
  intro i s e hi st p E t I
  obtain rfl:i=qs.length:=∅
  refine lx wI ?_
  rw [fR zQ _]
  show ax _ A.in1 (lj (.ref it) >>= _) _ _ s
  refine aa (om L st p ↥94 λh' V=>?_)
  show ax _ A.in1 (Builtin.Dict.addKeywords d [] >>= _) _ _ _
  rw [bg] at t
  exact aa (wpAny_pure (wpAny_pure (I h' s.toks (λb o _ h2 h=>V b o h2 h) (t.extBut V G))))
 | succ n ih =>
  intro i s e hi st p E t I
  have B:i<qs.length:=∅
  obtain ⟨⟨k,D,v⟩,m⟩:∃q,qs[i]? = some q:=⟨_,ae B⟩
  obtain ⟨b,hb,bd,bi,Q⟩:=E i _ m
  refine lx wI ?_
  rw [fR zQ _]
  show ax _ A.in1 (lj (.ref it) >>= _) _ _ s
  refine aa (ni st p hb λh1 J C=>?_)
  have H:h1.IsTuple b #[D,v]:=by
   obtain ⟨o,a,r⟩:=Q
   exact ⟨o,(C.2 b bi).trans a,r⟩
  show ax _ A.in1 (i8 [b8 b] _ >>= _) _ _ _
  obtain ⟨X,y,P,nb,M⟩:=H
  refine aa (bZ (aa (wpAny_tryCatch ?_)))
  unfold Builtin.Dict.pairItems
  refine aa (nN (T:="tuple") ⟨X,y,P⟩ ?_)
  rw [if_pos ⋯]
  refine aa (dr y M ↥46)
  show ax _ A.in1 (i8 [D,v] (dictSet d D v)) _ _ _
  have O:h1.DictOf (jH prog w) d ((qs.take i).map λq=>(q.1,q.2.2)):=t.sameBut C G
  refine bZ (wpAny_dictSet_pairs (s:={ s with heap:=h1 }) (hk _ (aC m)) O (λh2 N K=>?_) (by rw [ag,aY];omega))
  refine wpAny_pure ⟨mH zQ _,?_⟩
  have keep:∀c o,c≠d->c≠it->s.heap.get? c=some o->h2.get? c=some o:=λc o g f h=>(K.2 c g).trans ((C.2 c f).trans h)
  refine ih (i+1) { s with heap:=h2,toks:=s.toks+1 } ∅ ∅ ?_ ?_ (E.keep keep) ?_ λh3 tk Z d3=>?_
  ·obtain ⟨o,a,r⟩:=J
   exact ⟨o,(K.2 it G.symm).trans a,r⟩
  ·obtain ⟨o,a,r⟩:=p
   exact ⟨o,keep l o Y U a,r⟩
  ·have e:A8 ((qs.take i).map λq=>(q.1,q.2.2)) k v=(qs.take (i+1)).map λq=>(q.1,q.2.2):=by
    rw [A8,if_neg,bJ,m]
    ·simp
    ·intro z
     obtain ⟨x,hx,ex⟩:=List.any_eq_true.mp z
     obtain ⟨u,hu,rfl⟩:=List.mem_map.mp hx
     have ex:u.1=k:=of_decide_eq_true ex
     obtain ⟨j,hj,S⟩:=List.mem_iff_getElem.mp hu
     rw [aY] at hj
     rw [iF] at S
     obtain ⟨_,eq⟩:=List.getElem?_eq_some_iff.mp m
     have h1:(qs.map (·.1))[j]'(by rw [ag];omega)=(qs.map (·.1))[i]'(by rw [ag];exact B):=by rw [dR,dR,S,eq,ex]
     exact absurd h1 (List.pairwise_iff_getElem.mp nd j i _ _ ∅)
   rw [<- e]
   exact N
  ·exact I h3 tk (λc o g f h=>Z c o g f (keep c o g f h)) d3
end
section
variable {prog:Program}{w:bx}{A:bC}{E:ai->Shared->Prop}{s:Shared}{l:Addr}{ol:Obj}{nl:Nat}{items:Array ai}{qs:List (Key×ai×ai)}
theorem Z7 {Q:ai->Shared->Prop}(U:A.handled=none) (j:s.heap.get? l=some ol) (I:ol.cls = .type "list") (G:ol.data = .seq items nl) (Y:ol.dict=none) (hsz:qs.length<=sizeLine) (hk:∀q∈qs,(jH prog w).is q.1 q.2.1=true) (nd:(qs.map (·.1)).Nodup) (hn:items.size=qs.length)
  (ht:∀(i:Nat) (q:Key×ai×ai),qs[i]? = some q->∃b:Addr,items[i]? = some (.ref b)/\s.heap.IsTuple b #[q.2.1,q.2.2])
  (h:∀h' tk,↥13->h'.DictOf (jH prog w) s.heap.objs.size (qs.map λq=>(q.1,q.2.2))->Q ↥18 { s with heap:=h',toks:=tk }) :
  ax (ay prog w) A (call (.type "dict") [.ref l]) Q E s:=by
 refine callType_codes (Q₁:=λobj k=>obj = .ref s.heap.objs.size/\k={ s with heap:=s.heap.push { cls:=.type "dict",data:=.dict #[] } }) F.kt_called_dict (F.kt_typeCall_dict_1 _) F.entry_dict_init (kt_code_dict_new _ ⟨rfl,rfl⟩) ?_
 rintro obj k ⟨rfl,rfl⟩
 have a:(s.heap.push { cls:=.type "dict",data:=.dict #[] }).DictOf (jH prog w) s.heap.objs.size []:=sR s.heap
 have kp:∀b o,s.heap.get? b=some o->(s.heap.push { cls:=.type "dict",data:=.dict #[] }).get? b=some o:=λb o q=>ah _ q
 refine ⟨a.typeIs,F.args_dict_init_2 _ _,?_⟩
 have lt:∀b o,s.heap.get? b=some o->b≠s.heap.objs.size:=λb o q=>aF (aw q)
 unfold Builtin.«dict.__init__»
 refine aa ?_
 unfold Builtin.Dict.selfAndRest
 refine aa (wpAny_notOrdered_dict a.typeIs ?_)
 show ax _ _ (pure (s.heap.objs.size,[b8 l])) _ _ _
 refine wpAny_pure ?_
 show ax _ _ (mY "dict.__init__" s.heap.objs.size (.ref l) [] .none) _ _ _
 unfold mY
 refine aa (nN (T:="list") ⟨_,kp _ _ j,I⟩ ?_)
 rw [if_pos ⋯]
 generalize B:s.heap.push { cls:=.type "dict",data:=.dict #[] }=v at *
 refine aa (YZ (s:={ s with heap:=v }) (kp _ _ j) I G Y (by simp [U]) λh1 tk k1=>?_)
 rw [if_pos (show (none:Option ai).isNone=true from rfl)]
 have f:h1.IsList l items:=⟨ol,k1 _ _ (kp _ _ j),I,nl,G⟩
 refine aa (d9 ?_)
 refine aa (fL (s:={ s with heap:=h1,toks:=tk }) f (wpAny_pure ⟨mH zQ _,?_⟩))
 obtain ⟨z,_,_,m,_⟩:=id a
 have hi1:∀b o,h1.get? b=some o->b≠h1.objs.size:=λb o q=>aF (aw q)
 have e:∀b o,s.heap.get? b=some o->(h1.push { cls:=.type "list_iterator",data:=.fields #[.ref l,.int 0 0] }).get? b=some o:=λb o q=>ah _ (k1 _ _ (kp _ _ q))
 refine Yu (d:=s.heap.objs.size) (it:=h1.objs.size) (l:=l) (items:=items) (qs:=qs) (by simp [U]) (lt _ _ j) (hi1 _ _ (k1 _ _ (kp _ _ j))) (hi1 _ _ (k1 _ _ m)) hsz hk nd hn qs.length 0 _ ∅ (aB _) ⟨_,aE _ rfl,rfl,rfl⟩ (f.push _) (λi q t=>?_) ?_ λh' g p y=>?_
 ·obtain ⟨b,u,o,c,r⟩:=ht i q t
  exact ⟨b,u,lt _ _ c,hi1 _ _ (k1 _ _ (kp _ _ c)),o,e _ _ c,r⟩
 ·obtain ⟨o,es,x,n,r⟩:=a
  exact ⟨o,es,x,ah _ (k1 _ _ n),r⟩
 ·exact ⟨rfl,h h' g (λb o q=>p b o (lt _ _ q) (hi1 _ _ (k1 _ _ (kp _ _ q))) (e _ _ q)) y⟩
end
theorem wH {α β:Type}(P:Nat->α->β->Prop):∀(l:List α) (n:Nat),(∀(i:Nat) a,l[i]? = some a->∃b,P (n+i) a b)->∃bs:List β,bs.length=l.length/\∀(i:Nat) a b,l[i]? = some a->bs[i]? = some b->P (n+i) a b
 | [],n,_=>⟨[],rfl,λi a b h=>by simp at h⟩
 | x::r,n,h=>by
  obtain ⟨b,e⟩:=h 0 x rfl
  obtain ⟨bs,d,c⟩:=wH P r (n+1) λi a hi=>by
   have:=h (i+1) a (by simpa using hi)
   rwa [show n+1+i=n+(i+1) by omega]
  refine ⟨b::bs,by simp [d],λi a f h1 h2=>?_⟩
  cases i with
  | zero =>
   simp at h1 h2
   subst h1 h2
   exact e
  | succ i =>
   have:=c i a f (by simpa using h1) (by simpa using h2)
   rwa [show n+(i+1)=n+1+i by omega]
theorem JG {α β:Type}{F:α->β->Prop}:∀{l₁:List α}{j:List β},l₁.length=j.length->(∀(i:Nat) a b,l₁[i]? = some a->j[i]? = some b->F a b)->cW F l₁ j
 | [],[],_,_=>.nil
 | [],_::_,h,_=>by simp at h
 | _::_,[],h,_=>by simp at h
 | x::r,y::t,h,k=>.cons (k 0 x y rfl rfl) (JG (by simpa using h) λi a b h1 h2=>k (i+1) a b (by simpa using h1) (by simpa using h2))
theorem Zz {X:Cx}(K:af) (U:X.calm=true) (hK:X.K=K:=by rfl):xf X (.type "dict") (λxs H Q=>∃(p:Addr) (out:List V) (ms:List (Int×Int)),xs=[.ref p]/\SqL K H p out/\cW (λv (m:Int×Int)=>∃b,v=V.ref b/\H b=some (.tup [.int m.1,.int m.2])) out ms/\ (↥66).Nodup/\ms.length<=1000 /\
  ∀(d:Addr) H',H d=none->H' d=some (.dK (ms.map λm=>(.inl m.1,.int m.2)))->jo H H'->Q (.ref d) H'):=by
 subst hK
 intro pins s σ H xs us Q I r h
 obtain ⟨p,out,ms,rfl,hq,L,Z,j,k⟩:=h
 obtain ⟨u,rfl,y⟩:=vq r
 cases y
 obtain ⟨l,E,⟨ol,nl,ho,hc,O,N⟩,hz⟩:=I.list hq
 have C:out.length=ms.length:=aP L
 have ac:out.length=l.length:=E.length
 obtain ⟨qs,t,J⟩:=wH (λi (m:Int×Int) (q:Key×ai×ai)=>∃(b:Addr) (f c:Tok),q=(.inl m.1,.int m.1 f,.int m.2 c)/\l[i]? = some (.ref b)/\s.heap.IsTuple b #[.int m.1 f,.int m.2 c]) ms 0 λi m hi=>by
  rw [dq]
  have z:i<out.length:=by rw [C];exact (List.getElem?_eq_some_iff.mp hi).1
  obtain ⟨m',g,b,eb,hb⟩:=Paired.get L (ae z)
  rw [hi] at g
  cases g
  obtain ⟨u,hu,y⟩:=E.get (ae z)
  rw [eb] at y
  cases (show u=b8 b from y)
  obtain ⟨_,ab,R,o,h1,h2,n,D⟩:=(show qq X.prog X.w H s.heap b (.tup [.int m.1,.int m.2]) from I.hok b _ hb)
  cases R with
  | cons Y T =>
   cases T with
   | cons p2 S =>
    cases S
    obtain ⟨f,rfl⟩:=Y
    obtain ⟨c,rfl⟩:=p2
    exact ⟨_,b,f,c,rfl,hu,o,h1,h2,n,D⟩
 have get:∀(i:Nat) (q:Key×ai×ai),qs[i]? = some q->∃(m:Int×Int) (b:Addr) (f c:Tok),ms[i]? = some m/\q=(.inl m.1,.int m.1 f,.int m.2 c)/\l[i]? = some (.ref b)/\s.heap.IsTuple b #[.int m.1 f,.int m.2 c]:=λi q hi=>by
  have A:i<ms.length:=by rw [<- t];exact (List.getElem?_eq_some_iff.mp hi).1
  obtain ⟨b,f,c,e,h1,h2⟩:=J i _ q (ae A) hi
  rw [dq] at h1
  exact ⟨_,b,f,c,ae A,e,h1,h2⟩
 have B:qs.map (·.1)=ms.map λm=>(fe m.1:Key):=by
  refine mw λi=>?_
  rw [aH,aH]
  cases e:qs[i]? with
  | none =>
   rw [List.getElem?_eq_none_iff] at e
   rw [List.getElem?_eq_none_iff.mpr ∅]
   rfl
  | some q =>
   obtain ⟨m,b,f,c,h1,h2,_⟩:=get i q e
   rw [h1,h2]
   rfl
 have G:(qs.map (·.1)).Nodup:=by
  rw [B,show (ms.map λm=>(fe m.1:Key))=(↥66).map fe by rw [cz];rfl]
  exact List.Pairwise.map _ (λa b h e=>h (eX e)) Z
 have P:KV (ms.map λm=>((.inl m.1,.int m.2):Key×V)) (qs.map λq=>(q.1,q.2.2)):=by
  refine JG (by rw [ag,ag,t]) λi a b h1 h2=>?_
  rw [aH] at h1 h2
  obtain ⟨q,x,rfl⟩:=Option.map_eq_some_iff.mp h2
  obtain ⟨m,_,f,c,g,e,_⟩:=get i q x
  rw [g] at h1
  cases h1
  subst e
  exact ⟨rfl,c,rfl⟩
 refine Z7 (qs:=qs) (I.ok.hd U) ho hc N O (by rw [t];exact aN j ⋯) (λq x=>?_) G ↥94 (λi q hi=>?_) λh' tk keep dd=>?_
 ·obtain ⟨i,hi,e⟩:=List.mem_iff_getElem.mp x
  obtain ⟨m,b,f,c,h1,h2,_⟩:=get i q (by rw [ae hi,e])
  subst h2
  exact wT (k:=.inl m.1) ⟨f,rfl⟩
 ·obtain ⟨m,b,f,c,h1,h2,D,h4⟩:=get i q hi
  subst h2
  exact ⟨b,by simpa using D,h4⟩
 ·have M:=I.hok.fresh (ak s.heap.objs.size)
  exact ⟨.ref _,upd H s.heap.objs.size (.dK (ms.map λm=>((.inl m.1,.int m.2):Key×V))),I.laid (t':=tk) keep (ak _) (ZB (by rw [ag];exact aN j ⋯) (beq_eq_false_iff_ne.mpr (cV (aF I.big))) P dd),rfl,k _ _ M j9 (jo.new M)⟩
end L2
end
section
namespace L2
open PySem.W
section
variable {prog:Program}{w:bx}{A:bC}{R:pQ->Shared->Prop}{d it l:Addr}{items:Array ai}{qs:List ↥93}
end
section
variable {prog:Program}{w:bx}{A:bC}{E:ai->Shared->Prop}{s:Shared}{l:Addr}{ol:Obj}{nl:Nat}{items:Array ai}{qs:List ↥93}
end
end L2
end
section
namespace L2
theorem rdA {α:Type}{f Q:α->Prop}(v:α) (h:f v) (k:Q v):∃x,f x/\Q x:=⟨v,h,k⟩
theorem rdB {α β:Type}{f g Q:α->β->Prop}(v:α) (u:β) (h:f v u) (h':g v u) (k:Q v u):∃x y,f x y/\g x y/\Q x y:=⟨v,u,h,h',k⟩
end L2
end
section
namespace L2
open PySem.W
noncomputable abbrev Cx.noX (X:Cx):Cx:={ X with xe:=λ_ _=>False }
section
variable {X:Cx}{pins:List (Addr×Obj)}{σ:St}{H:Hp}{s:Shared}
theorem Inv.toNoX (I:Inv X pins σ H s):Inv X.noX pins σ H s:=⟨okP I.ok _ rfl,I.os,I.bare,I.base,I.loc,I.cell,I.free,I.freeC,I.pin,I.hok,I.len⟩
theorem Inv.ofNoX (I:Inv X.noX pins σ H s):Inv X pins σ H s:=⟨okP I.ok _ rfl,I.os,I.bare,I.base,I.loc,I.cell,I.free,I.freeC,I.pin,I.hok,I.len⟩
theorem WS {st:Stmt}{t:TS}(h:PS X.noX st t):PS X st t:=λpins s σ H D I q=>thn (wpAny_noRaise (h pins s σ H D I.toNoX q)) λ_ _ z=>spOf (λI=>I.ofNoX) z
end
end L2
end
section
namespace L2
open PySem.W
noncomputable def xm:Bool->Keyed->Array Keyed->Nat->Nat->Nat->StateT SortSt Sem (Option Nat):=sortPriv% PySem.Builtin.gallop
noncomputable def zK (left:Bool) (key:Keyed) (arr:Array Keyed) (base i:Nat):StateT SortSt Sem (Option Bool):=do
 let x <- cT arr (base+i)
 if left then lt' x key else return (<- lt' key x).map (!·)
noncomputable def ko (left:Bool) (key:Keyed) (arr:Array Keyed) (base n lo0 hi0:Nat):StateT SortSt Sem (Option Nat):=do
 let mut lo:=lo0
 let mut hi:=hi0
 for _ in [0:n] do
  if lo>=hi then break
  let m:=lo+(hi-lo) / 2
  let some more <- zK left key arr base m | return none
  if more then lo:=m+1 else hi:=m
 return some hi
theorem ZK (left:Bool) (key:Keyed) (arr:Array Keyed) (base n hint:Nat):xm left key arr base n hint=(do
 let mut lastofs:=0
 let mut ofs:=1
 let some right <- zK left key arr base hint | return none
 if right then
  for _ in [0:n] do
   if ofs>=n-hint then break
   let some more <- zK left key arr base (hint+ofs) | return none
   if !more then break
   lastofs:=ofs
   ofs:=2*ofs+1
  ko left key arr base n (hint+lastofs+1) (hint+min ofs (n-hint))
 else
  for _ in [0:n] do
   if ofs>=hint+1 then break
   let some found <- zK left key arr base (hint-ofs) | return none
   if found then break
   lastofs:=ofs
   ofs:=2*ofs+1
  ko left key arr base n (hint+1-min ofs (hint+1)) (hint-lastofs)):=rfl
section
variable {prog:Program}{w:bx}{A:bC}{E:ai->Shared->Prop}{s:Shared}{κ:di}{it:Array Keyed}{lt:Nat->Nat->Bool}{n:Nat}
noncomputable def Ans (prog:Program) (w:bx) (A:bC) (s:Shared) (κ:di) (it:Array Keyed) (lt:Nat->Nat->Bool) (n:Nat):Prop :=
 ∀i j,i<n->j<n->∀Q:Bool->Shared->Prop,Q (lt i j) s->ax (ay prog w) A (tF κ (aI it i).1 (aI it j).1) Q (λ_ _=>False) s
theorem kR (U:Ans prog w A s κ it lt n) {i j:Nat}(hi:i<n) (I:j<n) {st:SortSt}(G:kindOf st=κ) {Q:Option Bool->SortSt->Prop}(h:Q (some (lt i j)) st):wpS (ay prog w) A E s (lt' (aI it i) (aI it j)) Q st:=by
 rw [lt'_eq]
 refine aA (fP ?_)
 rw [G]
 refine aA (md (mI (bf (U i j hi I (λb s'=>b=lt i j/\s'=s) ⟨rfl,rfl⟩) (λb s' q=>?_) λ_ _ a=>a.elim)))
 obtain ⟨rfl,rfl⟩:=q
 exact ⟨rfl,aO h⟩
theorem Wg {p:Array Nat}{i:Nat}(hi:i<p.size):(p.map (aI it))[i]? = some (aI it (p.getD i 0)):=by
 have e:p.getD i 0=p[i]:=by simp [lY,hi]
 rw [e]
 simp [hi]
theorem jJ {p:Array Nat}{i:Nat}(hi:i<p.size) {st:SortSt}{Q:Keyed->SortSt->Prop}(h:Q (aI it (p.getD i 0)) st):wpS (ay prog w) A E s (cT (p.map (aI it)) i) Q st:=by
 rw [elem'_eq,Wg hi]
 exact aO h
noncomputable def byd (lt:Nat->Nat->Bool) (left:Bool) (key:Nat) (p:Array Nat) (i:Nat):Bool:=if left=true then lt (p.getD i 0) key else !lt key (p.getD i 0)
theorem Zc (U:Ans prog w A s κ it lt n) {left:Bool}{key base i:Nat}{p:Array Nat}(j:key<n) (hi:base+i<p.size) (G:p.getD (base+i) 0<n) {st:SortSt}(I:kindOf st=κ) {Q:Option Bool->SortSt->Prop}(h:Q (some (byd lt left key p (base+i))) st):wpS (ay prog w) A E s (zK left (aI it key) (p.map (aI it)) base i) Q st:=by
 unfold zK
 refine aA (jJ hi ?_)
 unfold byd at h
 cases left with
 | true =>
  rw [if_pos rfl] at h ⊢
  exact kR U G j I h
 | false =>
  rw [if_neg aq] at h ⊢
  exact aA (kR U j G I (aO h))
theorem gf {left:Bool}{base m lo hi:Nat}{B:Nat->Bool}{st:SortSt}(ask:∀{i:Nat}{U:Option Bool->SortSt->Prop},i<m->U (some (B i)) st->wpS (ay prog w) A E s (zK left key G base i) U st)
  (mono:∀i j,i<=j->j<m->B j=true->B i=true) (hl:lo<=hi) (Y:hi<=m) (h1:∀i,i<lo->B i=true) (h2:∀i,hi<=i->i<m->B i=false) {Q:Option Nat->SortSt->Prop}
  (h:∀k,k<=m->(∀i,i<k->B i=true)->(∀i,k<=i->i<m->B i=false)->Q (some k) st):wpS (ay prog w) A E s (ko left key G base m lo hi) Q st:=by
 unfold ko
 dsimp only
 refine aA (cA (c9 (I:=λx c a=>a=st/\∃lo hi,c=(none,lo,hi)/\lo<=hi/\hi<=m/\hi-lo+x<=m/\(∀i,i<lo->B i=true)/\∀i,hi<=i->i<m->B i=false)
  (Q:=λc a=>a=st/\∃lo hi,c=(none,lo,hi)/\hi<=m/\(∀i,i<hi->B i=true)/\∀i,hi<=i->i<m->B i=false) ?step ?fin ⟨rfl,lo,hi,rfl,hl,Y,∅,h1,h2⟩) ?post)
 case fin =>
  rintro c a ⟨rfl,lo,hi,rfl,p,f,o,d,b⟩
  exact ⟨rfl,lo,hi,rfl,f,λi g=>d i ∅,b⟩
 case step =>
  rintro x c a-q ⟨rfl,lo,hi,rfl,p,f,o,d,b⟩
  dsimp only
  by_cases z:lo>=hi
  ·rw [if_pos z]
   exact aO ⟨rfl,lo,hi,rfl,f,λi g=>d i ∅,b⟩
  ·rw [if_neg z]
   refine aA (ask ∅ ?_)
   dsimp only
   cases e:B (lo+(hi-lo) / 2) with
   | true =>
    rw [if_pos rfl]
    exact aO ⟨rfl,_,_,rfl,∅,f,∅,λi g=>mono i _ ∅ ∅ e,b⟩
   | false =>
    rw [if_neg aq]
    refine aO ⟨rfl,_,_,rfl,∅,∅,∅,d,λi hi1 l=>?_⟩
    cases n:B i with
    | false=>rfl
    | true=>rw [mono _ i hi1 l n] at e;cases e
 case post =>
  rintro c a ⟨rfl,lo,hi,rfl,f,d,b⟩
  exact aO (h hi f d b)
theorem xW (hc:Ans prog w A s κ it lt n) {left:Bool}{key base m G:Nat}{p:Array Nat}(U:key<n) (hm:base+m<=p.size) (Y:∀i,p.getD i 0<n) (hh:G<m)
  (mono:∀i j,i<=j->j<m->byd lt left key p (base+j)=true->byd lt left key p (base+i)=true) {st:SortSt} (hk:kindOf st=κ) {Q:Option Nat->SortSt->Prop}
  (h:∀k,k<=m->(∀i,i<k->byd lt left key p (base+i)=true)->(∀i,k<=i->i<m->byd lt left key p (base+i)=false)->Q (some k) st) :
  wpS (ay prog w) A E s (xm left (aI it key) (p.map (aI it)) base m G) Q st:=by
 rw [ZK]
 dsimp only
 have ask:∀{i:Nat} {t:Option Bool->SortSt->Prop},i<m->t (some (byd lt left key p (base+i))) st->wpS (ay prog w) A E s (zK left (aI it key) (p.map (aI it)) base i) t st:=λ{i} {t} hi y=>Zc hc U ∅ (Y _) hk y
 generalize C:(λi=>byd lt left key p (base+i))=B at *
 have D:∀i,byd lt left key p (base+i)=B i:=λi=>congrFun C i
 simp only [D] at mono h ask
 refine aA (ask hh ?_)
 dsimp only
 cases u:B G with
 | true =>
  rw [if_pos rfl]
  refine aA (cA (c9 (I:=λx c d=>d=st/\∃a b,c=(none,a,b)/\a<b/\x+1<=b/\G+a<m/\B (G+a)=true)
   (Q:=λc d=>d=st/\∃a b,c=(none,a,b)/\a<b/\G+a<m/\B (G+a)=true/\∀i,G+min b (m-G)<=i->i<m->B i=false) ?step ?fin ⟨rfl,0,1,rfl,∅,∅,∅,u⟩) ?post)
  case fin =>
   rintro c d ⟨rfl,a,b,rfl,l,r,g,f⟩
   exact ⟨rfl,a,b,rfl,l,g,f,λi h1 h2=>absurd h2 ∅⟩
  case step =>
   rintro x c d-v ⟨rfl,a,b,rfl,l,r,g,f⟩
   dsimp only
   by_cases z:b>=m-G
   ·rw [if_pos z]
    exact aO ⟨rfl,a,b,rfl,l,g,f,λi h1 h2=>absurd h2 ∅⟩
   ·rw [if_neg z]
    refine aA (ask ∅ ?_)
    dsimp only
    cases e:B (G+b) with
    | true =>
     rw [if_neg ⋯]
     exact aO ⟨rfl,_,_,rfl,∅,∅,∅,e⟩
    | false =>
     rw [if_pos ⋯]
     refine aO ⟨rfl,a,b,rfl,l,g,f,λi h1 h2=>?_⟩
     cases o:B i with
     | false=>rfl
     | true=>rw [mono _ i ∅ h2 o] at e;cases e
  case post =>
   rintro c d ⟨rfl,a,b,rfl,l,g,f,q⟩
   dsimp only
   exact gf ask mono ∅ ∅ (λi hi=>mono i _ ∅ g f) q h
 | false =>
  rw [if_neg aq]
  refine aA (cA (c9 (I:=λx c d=>d=st/\∃a b,c=(none,a,b)/\a<b/\x+1<=b/\a<=G/\B (G-a)=false)
   (Q:=λc d=>d=st/\∃a b,c=(none,a,b)/\a<b/\a<=G/\B (G-a)=false/\∀i,i<G+1-min b (G+1)->B i=true) ?step2 ?fin2 ⟨rfl,0,1,rfl,∅,∅,∅,u⟩) ?post2)
  case fin2 =>
   rintro c d ⟨rfl,a,b,rfl,l,r,g,f⟩
   exact ⟨rfl,a,b,rfl,l,g,f,λi h1=>absurd h1 ∅⟩
  case step2 =>
   rintro x c d-v ⟨rfl,a,b,rfl,l,r,g,f⟩
   dsimp only
   by_cases z:b>=G+1
   ·rw [if_pos z]
    exact aO ⟨rfl,a,b,rfl,l,g,f,λi h1=>absurd h1 ∅⟩
   ·rw [if_neg z]
    refine aA (ask ∅ ?_)
    dsimp only
    cases e:B (G-b) with
    | true =>
     rw [if_pos rfl]
     exact aO ⟨rfl,a,b,rfl,l,g,f,λi h1=>mono i _ ∅ ∅ e⟩
    | false =>
     rw [if_neg aq]
     exact aO ⟨rfl,_,_,rfl,∅,∅,∅,e⟩
  case post2 =>
   rintro c d ⟨rfl,a,b,rfl,l,g,f,q⟩
   dsimp only
   refine gf ask mono ∅ ∅ q (λi h1 h2=>?_) h
   cases o:B i with
   | false=>rfl
   | true=>rw [mono _ i h1 h2 o] at f;cases f
end
noncomputable def uv:Array Keyed->Array Keyed->StateT SortSt Sem (Array Keyed):=sortPriv% PySem.Builtin.mergeLo
noncomputable abbrev yH (st:SortSt) (g:Nat):SortSt:=tM (kindOf st) (fO st) (cK st) g (eS st)
noncomputable abbrev S6:=Option (Array Keyed)×Array Keyed×Nat×Nat×Nat×Nat
noncomputable abbrev S7:=Option (Array Keyed)×Array Keyed×Nat×Nat×Nat×Nat×Nat
noncomputable abbrev doneL (a b out:Array Keyed) (ia ib:Nat):Array Keyed:=out++a.extract ia a.size++b.extract ib b.size
noncomputable abbrev lastL (a b out:Array Keyed) (ia ib:Nat):Array Keyed:=out++b.extract ib b.size++a.extract ia a.size
noncomputable def lo1 (a b out:Array Keyed) (mg ia ib ac bc:Nat):StateT SortSt Sem (ForInStep S6):=do
 let __x <- lt' (<- cT b ib) (<- cT a ia)
 match __x with
 | some bWins =>
  if bWins then
   let e <- cT b ib
   if ib+1 == b.size then return .done (some (doneL a b (out.push e) ia (ib+1)),out.push e,ia,ib+1,0,bc+1)
   if bc+1>=mg then return .done (none,out.push e,ia,ib+1,0,bc+1)
   return .yield (none,out.push e,ia,ib+1,0,bc+1)
  else
   let e <- cT a ia
   if ia+1+1 == a.size then return .done (some (lastL a b (out.push e) (ia+1) ib),out.push e,ia+1,ib,ac+1,0)
   if ac+1>=mg then return .done (none,out.push e,ia+1,ib,ac+1,0)
   return .yield (none,out.push e,ia+1,ib,ac+1,0)
 | _=>return .done (some (doneL a b out ia ib),out,ia,ib,ac,bc)
noncomputable def loC (a b out:Array Keyed) (ia ib mg ac bc:Nat):StateT SortSt Sem (ForInStep S7):=do
 let e <- cT a ia
 if ia+1+1 == a.size then return .done (some (lastL a b (out.push e) (ia+1) ib),out.push e,ia+1,ib,mg,ac,bc)
 if ac<7 && bc<7 then return .done (none,out.push e,ia+1,ib,mg,ac,bc)
 return .yield (none,out.push e,ia+1,ib,mg,ac,bc)
noncomputable def loB (a b out:Array Keyed) (ia ib mg ac bc:Nat):StateT SortSt Sem (ForInStep S7):=do
 let e <- cT b ib
 if ib+1 == b.size then return .done (some (doneL a b (out.push e) ia (ib+1)),out.push e,ia,ib+1,mg,ac,bc)
 let __x <- xm true (<- cT a ia) b (ib+1) (b.size-(ib+1)) 0
 match __x with
 | some k =>
  if k > 0 then
   if ib+1+k == b.size then return .done (some (doneL a b (out.push e++b.extract (ib+1) (ib+1+k)) ia (ib+1+k)),out.push e++b.extract (ib+1) (ib+1+k),ia,ib+1+k,mg,ac,k)
   loC a b (out.push e++b.extract (ib+1) (ib+1+k)) ia (ib+1+k) mg ac k
  else loC a b (out.push e) ia (ib+1) mg ac k
 | _=>return .done (some (doneL a b (out.push e) ia (ib+1)),out.push e,ia,ib+1,mg,ac,bc)
noncomputable def loA (a b out:Array Keyed) (ia ib mg ac bc:Nat):StateT SortSt Sem (ForInStep S7):=do
 modify (λs=>yH s mg)
 let __x <- xm false (<- cT b ib) a ia (a.size-ia) 0
 match __x with
 | some k =>
  if k > 0 then
   if ia+k+1 == a.size then return .done (some (lastL a b (out++a.extract ia (ia+k)) (ia+k) ib),out++a.extract ia (ia+k),ia+k,ib,mg,k,bc)
   if ia+k == a.size then return .done (some (doneL a b (out++a.extract ia (ia+k)) (ia+k) ib),out++a.extract ia (ia+k),ia+k,ib,mg,k,bc)
   loB a b (out++a.extract ia (ia+k)) (ia+k) ib mg k bc
  else loB a b out ia ib mg k bc
 | _=>return .done (some (doneL a b out ia ib),out,ia,ib,mg,ac,bc)
noncomputable def loT (a b:Array Keyed) (c:Option (Array Keyed)×Array Keyed×Nat×Nat×Nat):StateT SortSt Sem (ForInStep (Option (Array Keyed)×Array Keyed×Nat×Nat×Nat)):=do
 let d <- mU [0:a.size+b.size] (none,c.2.1,c.2.2.1,c.2.2.2.1,0,0) λ_ d=>lo1 a b d.2.1 c.2.2.2.2 d.2.2.1 d.2.2.2.1 d.2.2.2.2.1 d.2.2.2.2.2
 match d.1 with
 | some r=>return .done (some r,d.2.1,d.2.2.1,d.2.2.2.1,c.2.2.2.2)
 | none =>
  rule "list.sort.gallop"
  let g <- mU [0:a.size+b.size] (none,d.2.1,d.2.2.1,d.2.2.2.1,c.2.2.2.2+1,d.2.2.2.2.1,d.2.2.2.2.2) λ_ g =>
   if g.2.2.2.2.1 > 1 then loA a b g.2.1 g.2.2.1 g.2.2.2.1 (g.2.2.2.2.1-1) g.2.2.2.2.2.1 g.2.2.2.2.2.2 else loA a b g.2.1 g.2.2.1 g.2.2.2.1 g.2.2.2.2.1 g.2.2.2.2.2.1 g.2.2.2.2.2.2
  match g.1 with
  | some r=>return .done (some r,g.2.1,g.2.2.1,g.2.2.2.1,g.2.2.2.2.1)
  | none =>
   modify (λs=>yH s (g.2.2.2.2.1+1))
   return .yield (none,g.2.1,g.2.2.1,g.2.2.2.1,g.2.2.2.2.1+1)
theorem Qj (a b:Array Keyed):uv a b=(do
 rule "list.sort.merge-lo"
 let total:=a.size+b.size
 let done (out:Array Keyed) (ia ib:Nat):=out++a.extract ia a.size++b.extract ib b.size
 let lastOfA (out:Array Keyed) (ia ib:Nat):=out++b.extract ib b.size++a.extract ia a.size
 let mut out:Array Keyed:=#[<- cT b 0]
 let mut ia:=0
 let mut ib:=1
 if ib == b.size then return done out ia ib
 if ia+1 == a.size then return lastOfA out ia ib
 let mut minGallop:=tN (<- get)
 for _ in [0:total] do
  let mut acount:=0
  let mut bcount:=0
  for _ in [0:total] do
   let some bWins <- lt' (<- cT b ib) (<- cT a ia) | return done out ia ib
   if bWins then
    out:=out.push (<- cT b ib);ib:=ib+1;bcount:=bcount+1;acount:=0
    if ib == b.size then return done out ia ib
    if bcount>=minGallop then break
   else
    out:=out.push (<- cT a ia);ia:=ia+1;acount:=acount+1;bcount:=0
    if ia+1 == a.size then return lastOfA out ia ib
    if acount>=minGallop then break
  rule "list.sort.gallop"
  minGallop:=minGallop+1
  for _ in [0:total] do
   if minGallop > 1 then minGallop:=minGallop-1
   modify (λs=>yH s minGallop)
   let some k <- xm false (<- cT b ib) a ia (a.size-ia) 0 | return done out ia ib
   acount:=k
   if k > 0 then
    out:=out++a.extract ia (ia+k);ia:=ia+k
    if ia+1 == a.size then return lastOfA out ia ib
    if ia == a.size then return done out ia ib
   out:=out.push (<- cT b ib);ib:=ib+1
   if ib == b.size then return done out ia ib
   let some k <- xm true (<- cT a ia) b ib (b.size-ib) 0 | return done out ia ib
   bcount:=k
   if k > 0 then
    out:=out++b.extract ib (ib+k);ib:=ib+k
    if ib == b.size then return done out ia ib
   out:=out.push (<- cT a ia);ia:=ia+1
   if ia+1 == a.size then return lastOfA out ia ib
   if acount<7 && bcount<7 then break
  minGallop:=minGallop+1
  modify (λs=>yH s minGallop)
 mx "internal:list.sort.merge-bound"):=rfl
set_option maxHeartbeats 4000000 in
theorem QI (a b:Array Keyed):uv a b=(do
 rule "list.sort.merge-lo"
 let e <- cT b 0
 if 1 == b.size then return doneL a b #[e] 0 1
 if 0+1 == a.size then return lastL a b #[e] 0 1
 let s <- get
 let c <- mU [0:a.size+b.size] (none,#[e],0,1,tN s) λ_ c=>loT a b c
 match c.1 with
 | some r=>return r
 | none=>mx "internal:list.sort.merge-bound"):=by
 rw [Qj]
 dsimp only
 have ic:∀{α:Type} (c:Prop) [Decidable c] {x y x' y':α},x=x'->y=y'->(if c then x else y)=(if c then x' else y'):=λc _ _ _ _ _ h1 h2=>by rw [h1,h2]
 congr 1;funext _;congr 1;funext e
 refine ic _ rfl (ic _ rfl ?_)
 congr 1;funext s;congr 1
 ·congr 1;funext x c
  unfold loT
  congr 1
  funext d
  rcases d with ⟨d1,d2⟩
  cases d1 with
  | some r=>rfl
  | none =>
   dsimp only
   congr 1
   funext _
   congr 1
   funext g
   rcases g with ⟨g1,g2⟩
   cases g1 <;> rfl
 ·funext c
  rcases c with ⟨c1,c2⟩
  cases c1 <;> rfl
noncomputable abbrev LE (lt:Nat->Nat->Bool) (i j:Nat):Prop:=lt j i=false
structure Tot (lt:Nat->Nat->Bool):Prop where
 tr:∀i j k,LE lt i j->LE lt j k->LE lt i k
 as:∀i j,lt i j=true->LE lt i j
noncomputable def MgI (lt:Nat->Nat->Bool) (it:Array Keyed) (pa pb:Array Nat) (out:Array Keyed) (ia ib:Nat):Prop :=
 ∃a:Array Nat,out=a.map (aI it)/\a.toList.Perm (pa.toList.take ia++pb.toList.take ib)/\a.toList.Pairwise (LE lt)/\∀x∈a.toList,∀y∈pa.toList.drop ia++pb.toList.drop ib,LE lt x y
noncomputable def MgF (lt:Nat->Nat->Bool) (it:Array Keyed) (pa pb:Array Nat) (out:Array Keyed):Prop :=
 ∃a:Array Nat,out=a.map (aI it)/\a.toList.Perm (pa.toList++pb.toList)/\a.toList.Pairwise (LE lt)
section
variable {lt:Nat->Nat->Bool}{it:Array Keyed}{pa pb:Array Nat}{out:Array Keyed}{ia ib:Nat}
theorem MgI.ext (h:MgI lt it pa pb out ia ib) {zs:Array Nat}{j ib':Nat}{ma mb:List Nat}(ha:pa.toList.drop ia=ma++pa.toList.drop j) (U:pa.toList.take j=pa.toList.take ia++ma) (Y:pb.toList.drop ib=mb++pb.toList.drop ib') (I:pb.toList.take ib'=pb.toList.take ib++mb)
  (G:zs.toList.Perm (ma++mb)) (hs:zs.toList.Pairwise (LE lt)) (hr:∀x∈zs.toList,∀y∈pa.toList.drop j++pb.toList.drop ib',LE lt x y):MgI lt it pa pb (out++zs.map (aI it)) j ib':=by
 obtain ⟨d,rfl,f,e,c⟩:=h
 refine ⟨d++zs,by rw [Array.map_append],?_,?_,?_⟩
 ·rw [lK,U,I]
  refine (f.append G).trans ?_
  rw [bR,bR]
  refine oo _ ?_
  rw [<- bR,<- bR]
  exact List.Perm.append_right _ oq
 ·rw [lK]
  refine List.pairwise_append.mpr ⟨e,hs,λx b y a=>c x b y ?_⟩
  rw [ha,Y]
  rcases List.mem_append.mp (G.mem_iff.mp a) with h | h
  ·exact cc _ (cc _ h)
  ·exact aJ _ (cc _ h)
 ·intro x b y a
  rw [lK] at b
  rcases List.mem_append.mp b with h | h
  ·refine c x h y ?_
   rw [ha,Y]
   rcases List.mem_append.mp a with h | h
   ·exact cc _ (aJ _ h)
   ·exact aJ _ (aJ _ h)
  ·exact hr x h y a
theorem zk (p:Array Nat) (i k:Nat):p.toList.drop i=(p.extract i (i+k)).toList++p.toList.drop (i+k)/\p.toList.take (i+k)=p.toList.take i++(p.extract i (i+k)).toList:=by
 rw [cU]
 show _=(p.toList.drop i).take (i+k-i)++_/\_=_++(p.toList.drop i).take (i+k-i)
 rw [mZ]
 refine ⟨?_,?_⟩
 ·conv=>lhs;rw [<- iQ k (p.toList.drop i),List.drop_drop]
 ·rw [List.take_add]
theorem hU {p:Array Nat}(h:p.toList.Pairwise (LE lt)) (i j:Nat):(p.extract i j).toList.Pairwise (LE lt):=by
 rw [cU]
 exact (h.sublist (my _ _)).sublist (ml _ _)
theorem vG {p:Array Nat}{i k x:Nat}(h:x∈(p.extract i (i+k)).toList):∃j,j<k/\i+j<p.size/\x=p.getD (i+j) 0:=by
 rw [cU] at h
 obtain ⟨j,a,e⟩:=List.mem_iff_getElem.mp h
 have a:j<((p.toList.drop i).take (i+k-i)).length:=a
 have e:((p.toList.drop i).take (i+k-i))[j]=x:=e
 rw [aY,eQ,aG] at a
 refine ⟨j,∅,∅,?_⟩
 rw [<- e,iF,iG,bY,av,aZ ∅]
 rfl
theorem xS {p:Array Nat}{i x:Nat}(h:x∈p.toList.drop i):∃j,i<=j/\j<p.size/\x=p.getD j 0:=by
 obtain ⟨j,a,e⟩:=List.mem_iff_getElem.mp h
 rw [eQ,aG] at a
 refine ⟨i+j,∅,∅,?_⟩
 rw [<- e,iG,bY,av,aZ ∅]
 rfl
theorem yc (T:Tot lt) {p:Array Nat}(h:p.toList.Pairwise (LE lt)) {i j:Nat}(I:i<j) (G:j<p.size):LE lt (p.getD i 0) (p.getD j 0):=by
 have:=List.pairwise_iff_getElem.mp h i j (by rw [aG];omega) (by rw [aG];exact G) I
 rw [av,aZ ∅,av,aZ G]
 rw [bY,bY] at this
 exact this
theorem MgI.runA (h:MgI lt it pa pb out ia ib) (k:Nat) (G:pa.toList.Pairwise (LE lt)) (I:∀j,j<k->ia+j<pa.size->∀y∈pb.toList.drop ib,LE lt (pa.getD (ia+j) 0) y):MgI lt it pa pb (out++ (↥28).extract ia (ia+k)) (ia+k) ib:=by
 rw [<- iH]
 obtain ⟨h1,h2⟩:=zk pa ia k
 refine h.ext h1 h2 (mb:=[]) (oh _).symm (bj _).symm (by rw [bj]) (hU G _ _) λx a y e=>?_
 rcases List.mem_append.mp e with q | q
 ·have b:=G.sublist (my ia _)
  rw [h1] at b
  exact (List.pairwise_append.mp b).2.2 x a y q
 ·obtain ⟨j,d,c,rfl⟩:=vG a
  exact I j d c y q
theorem MgI.runB (h:MgI lt it pa pb out ia ib) (k:Nat) (G:pb.toList.Pairwise (LE lt)) (I:∀j,j<k->ib+j<pb.size->∀y∈pa.toList.drop ia,LE lt (pb.getD (ib+j) 0) y):MgI lt it pa pb (out++ (↥29).extract ib (ib+k)) ia (ib+k):=by
 rw [<- iH]
 obtain ⟨h1,h2⟩:=zk pb ib k
 refine h.ext (ma:=[]) (oh _).symm (bj _).symm h1 h2 (by rw [oh]) (hU G _ _) λx a y e=>?_
 rcases List.mem_append.mp e with q | q
 ·obtain ⟨j,d,c,rfl⟩:=vG a
  exact I j d c y q
 ·have b:=G.sublist (my ib _)
  rw [h1] at b
  exact (List.pairwise_append.mp b).2.2 x a y q
theorem Qu (p:Array Nat) {i:Nat}(h:i<p.size):(p.map (aI it)).extract i (i+1) = #[aI it (p.getD i 0)]:=by
 have e:p.getD i 0=p[i]:=by simp [lY,h]
 rw [e]
 apply Array.toList_inj.mp
 rw [cU]
 show ((p.map (aI it)).toList.drop i).take (i+1-i)=_
 rw [mZ,eR,cj (by rw [ag,aG];exact h),List.take_succ_cons,iI,dR,bY]
theorem MgI.pushA (h:MgI lt it pa pb out ia ib) (hi:ia<pa.size) (I:pa.toList.Pairwise (LE lt)) (G:∀y∈pb.toList.drop ib,LE lt (pa.getD ia 0) y):MgI lt it pa pb (out.push (aI it (pa.getD ia 0))) (ia+1) ib:=by
 have:=h.runA 1 I λj b _ y a=>by rw [show ia+j=ia by omega];exact G y a
 rw [Qu pa hi] at this
 rw [fT]
 exact this
theorem MgI.pushB (h:MgI lt it pa pb out ia ib) (hi:ib<pb.size) (I:pb.toList.Pairwise (LE lt)) (G:∀y∈pa.toList.drop ia,LE lt (pb.getD ib 0) y):MgI lt it pa pb (out.push (aI it (pb.getD ib 0))) ia (ib+1):=by
 have:=h.runB 1 I λj b _ y a=>by rw [show ib+j=ib by omega];exact G y a
 rw [Qu pb hi] at this
 rw [fT]
 exact this
theorem MgI.fin (h:MgI lt it pa pb out pa.size pb.size):MgF lt it pa pb out:=by
 obtain ⟨a,h1,h2,b,c⟩:=h
 refine ⟨a,h1,?_,b⟩
 rw [fk (by rw [aG];exact ak _),fk (by rw [aG];exact ak _)] at h2
 exact h2
theorem MgI.doneL (h:MgI lt it pa pb out ia ib) (h1:ia<=pa.size) (h2:ib<=pb.size) (U:pa.toList.Pairwise (LE lt)) (I:pb.toList.Pairwise (LE lt)) (G:∀x∈pa.toList.drop ia,∀y∈pb.toList.drop ib,LE lt x y):MgF lt it pa pb (doneL ↥28 ↥29 out ia ib):=by
 have g:ia+(pa.size-ia)=pa.size:=∅
 have f:ib+(pb.size-ib)=pb.size:=∅
 have d:=h.runA (pa.size-ia) U λj e b y a=>G _ (by
  have:pa.toList.drop ia=(pa.extract ia (ia+(pa.size-ia))).toList++_:=(zk pa ia (pa.size-ia)).1
  refine List.mem_iff_getElem.mpr ⟨j,by rw [eQ,aG];omega,?_⟩
  rw [iG,bY,av,aZ b]
  rfl) y a
 rw [g] at d
 have c:=d.runB (pb.size-ib) I λj e b y a=>by
  rw [cM (by rw [aG];exact ak _)] at a
  cases a
 rw [f] at c
 have:=c.fin
 unfold L2.doneL
 rw [aT,aT]
 exact this
theorem MgI.lastL (h:MgI lt it pa pb out ia ib) (h1:ia<=pa.size) (h2:ib<=pb.size) (U:pa.toList.Pairwise (LE lt)) (I:pb.toList.Pairwise (LE lt)) (G:∀y∈pb.toList.drop ib,∀x∈pa.toList.drop ia,LE lt y x):MgF lt it pa pb (lastL ↥28 ↥29 out ia ib):=by
 have g:ia+(pa.size-ia)=pa.size:=∅
 have f:ib+(pb.size-ib)=pb.size:=∅
 have d:=h.runB (pb.size-ib) I λj e b y a=>G _ (by
  refine List.mem_iff_getElem.mpr ⟨j,by rw [eQ,aG];omega,?_⟩
  rw [iG,bY,av,aZ b]
  rfl) y a
 rw [f] at d
 have c:=d.runA (pa.size-ia) U λj e b y a=>by
  rw [cM (by rw [aG];exact ak _)] at a
  cases a
 rw [g] at c
 have:=c.fin
 unfold L2.lastL
 rw [aT,aT]
 exact this
end
structure StOk (st0 st:SortSt):Prop where
 k:kindOf st=kindOf st0
 a:fO st=fO st0
 p:cK st=cK st0
 f:eS st=eS st0
theorem StOk.refl (st:SortSt):StOk st st:=⟨rfl,rfl,rfl,rfl⟩
theorem StOk.gal {st0 st:SortSt}(h:StOk st0 st) (g:Nat):StOk st0 (yH st g):=⟨h.k,h.a,h.p,h.f⟩
structure Two2 (lt:Nat->Nat->Bool) (n:Nat) (pa pb:Array Nat):Prop where
 T:Tot lt
 na:∀i,pa.getD i 0<n
 nb:∀i,pb.getD i 0<n
 sa:pa.toList.Pairwise (LE lt)
 sb:pb.toList.Pairwise (LE lt)
section
variable {prog:Program}{w:bx}{A:bC}{E:ai->Shared->Prop}{s:Shared}{κ:di}{it:Array Keyed}{lt:Nat->Nat->Bool}{n:Nat}{pa pb:Array Nat}{st0:SortSt}
noncomputable def R6 (lt:Nat->Nat->Bool) (it:Array Keyed) (pa pb:Array Nat) (st0:SortSt) (t:Nat):ForInStep S6->SortSt->Prop:=λr st=>StOk st0 st/\match r with
 | .done (some o,_)=>MgF lt it pa pb o
 | .done (none,out,ia,ib,_)=>MgI lt it pa pb out ia ib/\ia+1<pa.size/\ib<pb.size/\t<ia+ib
 | .yield (none,out,ia,ib,_)=>MgI lt it pa pb out ia ib/\ia+1<pa.size/\ib<pb.size/\t<ia+ib
 | .yield (some _,_)=>False
noncomputable def R7 (lt:Nat->Nat->Bool) (it:Array Keyed) (pa pb:Array Nat) (st0:SortSt) (t:Nat):ForInStep S7->SortSt->Prop:=λr st=>StOk st0 st/\match r with
 | .done (some o,_)=>MgF lt it pa pb o
 | .done (none,out,ia,ib,_)=>MgI lt it pa pb out ia ib/\ia+1<pa.size/\ib<pb.size/\t<ia+ib
 | .yield (none,out,ia,ib,_)=>MgI lt it pa pb out ia ib/\ia+1<pa.size/\ib<pb.size/\t<ia+ib
 | .yield (some _,_)=>False
theorem vE (T:Tot lt) {p:Array Nat}(G:p.toList.Pairwise (LE lt)) {i x:Nat}(h:∀y,i<p.size->y=p.getD i 0->LE lt x y):∀y∈p.toList.drop i,LE lt x y:=λy b=>by
 obtain ⟨j,c,a,rfl⟩:=xS b
 by_cases e:j=i
 ·subst e;exact h _ a rfl
 ·exact T.tr _ _ _ (h _ ∅ rfl) (yc T G ∅ a)
theorem Wi (hc:Ans prog w A s κ it lt n) (D:Two2 lt n pa pb) (hl:∀y∈pb.toList,LE lt y ↥87) {mg ia ib Y U t:Nat}{st:SortSt}(G:StOk st0 st) (hk:kindOf st0=κ) (I:MgI lt it pa pb out ia ib) (h1:ia+1<pa.size) (h2:ib<pb.size) (ht:t<=ia+ib) :
  wpS (ay prog w) A E s (lo1 ↥28 ↥29 out mg ia ib Y U) (R6 lt it pa pb st0 t) st:=by
 unfold lo1
 refine aA (jJ h2 (aA (jJ ∅ (aA (kR hc (D.nb _) (D.na _) (G.k.trans hk) ?_)))))
 dsimp only
 cases e:lt (pb.getD ib 0) (pa.getD ia 0) with
 | true =>
  rw [if_pos rfl]
  refine aA (jJ h2 ?_)
  have b:=I.pushB h2 D.sb (vE D.T D.sa λy _ a=>by rw [a];exact D.T.as _ _ e)
  rw [aT]
  by_cases z:ib+1=pb.size
  ·rw [if_pos ↥88]
   refine aO ⟨G,?_⟩
   exact b.doneL ∅ ∅ D.sa D.sb λx _ y a=>by rw [cM (by rw [aG];omega)] at a;cases a
  ·rw [if_neg ↥37]
   by_cases q:U+1>=mg
   ·rw [if_pos q]
    exact aO ⟨G,b,h1,∅,∅⟩
   ·rw [if_neg q]
    exact aO ⟨G,b,h1,∅,∅⟩
 | false =>
  rw [if_neg aq]
  refine aA (jJ ∅ ?_)
  have b:=I.pushA ∅ D.sa (vE D.T D.sb λy _ a=>by rw [a];exact e)
  rw [aT]
  by_cases z:ia+1+1=pa.size
  ·rw [if_pos ↥88]
   refine aO ⟨G,?_⟩
   exact b.lastL ∅ ∅ D.sa D.sb λy a x c=>by
    obtain ⟨j,f,d,rfl⟩:=xS c
    rw [show j=pa.size-1 by omega]
    exact hl y (fU a)
  ·rw [if_neg ↥37]
   by_cases q:Y+1>=mg
   ·rw [if_pos q]
    exact aO ⟨G,b,∅,h2,∅⟩
   ·rw [if_neg q]
    exact aO ⟨G,b,∅,h2,∅⟩
theorem Y4 (D:Two2 lt n pa pb) (hl:∀y∈pb.toList,LE lt y ↥87) {mg ia ib Y U t:Nat}{st:SortSt}(G:StOk st0 st) (I:MgI lt it pa pb out ia ib) (h1:ia+1<pa.size) (h2:ib<pb.size) (ht:t<=ia+ib) (hr:∀y∈pb.toList.drop ib,LE lt (pa.getD ia 0) y) :
  wpS (ay prog w) A E s (loC ↥28 ↥29 out ia ib mg Y U) (R7 lt it pa pb st0 t) st:=by
 unfold loC
 refine aA (jJ ∅ ?_)
 have a:=I.pushA ∅ D.sa hr
 rw [aT]
 by_cases z:ia+1+1=pa.size
 ·rw [if_pos ↥88]
  refine aO ⟨G,?_⟩
  exact a.lastL ∅ ∅ D.sa D.sb λy b x c=>by
   obtain ⟨j,e,d,rfl⟩:=xS c
   rw [show j=pa.size-1 by omega]
   exact hl y (fU b)
 ·rw [if_neg ↥37]
  by_cases q:(decide (Y<7) && decide (U<7))=true
  ·rw [if_pos q]
   exact aO ⟨G,a,∅,h2,∅⟩
  ·rw [if_neg q]
   exact aO ⟨G,a,∅,h2,∅⟩
theorem Ju (T:Tot lt) {p:Array Nat}(G:p.toList.Pairwise (LE lt)) {base m key:Nat}(I:base+m<=p.size):∀i j,i<=j->j<m->byd lt true key p (base+j)=true->byd lt true key p (base+i)=true:=λi j a b h=>by
 have h:lt (p.getD (base+j) 0) key=true:=h
 show lt ↥129 key=true
 by_cases e:i=j
 ·rw [e];exact h
 ·cases q:lt ↥129 key with
  | true=>rfl
  | false =>
   have this:lt (p.getD (base+j) 0) key=false:=T.tr _ _ _ (show LE lt key ↥129 from q) (yc T G (show base+i<base+j by omega) ∅)
   rw [h] at this
   cases this
theorem hX (T:Tot lt) {p:Array Nat}(G:p.toList.Pairwise (LE lt)) {base m key:Nat}(I:base+m<=p.size):∀i j,i<=j->j<m->byd lt false key p (base+j)=true->byd lt false key p (base+i)=true:=λi j a b h=>by
 have h:(!lt key (p.getD (base+j) 0))=true:=h
 show (!lt key ↥129)=true
 by_cases e:i=j
 ·rw [e];exact h
 ·have h':LE lt (p.getD (base+j) 0) key:=by cases q:lt key (p.getD (base+j) 0) with
   | true=>rw [q] at h;cases h
   | false=>exact q
  have this:lt key ↥129=false:=T.tr _ _ _ (yc T G (show base+i<base+j by omega) ∅) h'
  rw [this]
  rfl
theorem vx {key i:Nat}(h:byd lt false key p i=true):LE lt (p.getD i 0) key:=by
 have h:(!lt key (p.getD i 0))=true:=h
 cases q:lt key (p.getD i 0) with
 | true=>rw [q] at h;cases h
 | false=>exact q
theorem yJ {key i:Nat}(h:byd lt false key p i=false):lt key (p.getD i 0)=true:=by
 have h:(!lt key (p.getD i 0))=false:=h
 cases q:lt key (p.getD i 0) with
 | true=>rfl
 | false=>rw [q] at h;cases h
theorem Y6 (hc:Ans prog w A s κ it lt n) (D:Two2 lt n pa pb) (U:∀y∈pb.toList,LE lt y ↥87) {mg ia ib ac bc t:Nat}{st:SortSt}(G:StOk st0 st) (hk:kindOf st0=κ) (I:MgI lt it pa pb out ia ib) (h1:ia+1<pa.size) (h2:ib<pb.size) (ht:t<=ia+ib) (Y:∀y∈pa.toList.drop ia,LE lt (pb.getD ib 0) y) :
  wpS (ay prog w) A E s (loB ↥28 ↥29 out ia ib mg ac bc) (R7 lt it pa pb st0 t) st:=by
 unfold loB
 refine aA (jJ h2 ?_)
 have b:=I.pushB h2 D.sb Y
 rw [aT]
 by_cases z:ib+1=pb.size
 ·rw [if_pos ↥88]
  refine aO ⟨G,?_⟩
  exact b.doneL ∅ ∅ D.sa D.sb λx _ y a=>by rw [cM (by rw [aG];omega)] at a;cases a
 ·rw [if_neg ↥37]
  refine aA (jJ ∅ (aA (xW hc (D.na _) ∅ D.nb ∅ (Ju D.T D.sb ∅) (G.k.trans hk) λk k1 h g=>?_)))
  dsimp only
  have d:∀y∈pb.toList.drop (ib+1+k),LE lt (pa.getD ia 0) y:=vE D.T D.sb λy o e=>by
   rw [e]
   exact g k (ak _) ∅
  by_cases q:k > 0
  ·rw [if_pos q]
   have f:=b.runB k D.sb λj l _ y a=>by
    have:lt (pb.getD (ib+1+j) 0) (pa.getD ia 0)=true:=h j l
    have m:=vE D.T D.sa (i:=ia) (x:=pb.getD (ib+1+j) 0) λy _ a=>by rw [a];exact D.T.as _ _ this
    exact m y a
   by_cases c:ib+1+k=pb.size
   ·rw [if_pos (by rw [c];exact beq_self_eq_true _)]
    refine aO ⟨G,?_⟩
    exact f.doneL ∅ ∅ D.sa D.sb λx _ y a=>by rw [cM (by rw [aG];omega)] at a;cases a
   ·rw [if_neg (by rw [beq_iff_eq];exact c)]
    exact Y4 D U G f h1 ∅ ∅ d
  ·rw [if_neg q]
   obtain rfl:k=0:=∅
   exact Y4 D U G b h1 ∅ ∅ d
theorem We (hc:Ans prog w A s κ it lt n) (D:Two2 lt n pa pb) (U:∀y∈pb.toList,LE lt y ↥87) {mg ia ib ac bc t:Nat}{st:SortSt}(G:StOk st0 st) (Y:kindOf st0=κ) (I:MgI lt it pa pb out ia ib) (h1:ia+1<pa.size) (h2:ib<pb.size) (ht:t<=ia+ib) :
  wpS (ay prog w) A E s (loA ↥28 ↥29 out ia ib mg ac bc) (R7 lt it pa pb st0 t) st:=by
 unfold loA
 refine aA (dm ?_)
 have G:=G.gal mg
 refine aA (jJ h2 ?_)
 rw [aT]
 refine aA (xW hc (D.nb _) ∅ D.na ∅ (hX D.T D.sa ∅) (G.k.trans Y) λk k1 h g=>?_)
 dsimp only
 have e:∀y∈pa.toList.drop (ia+k),LE lt (pb.getD ib 0) y:=vE D.T D.sa λy o f=>by
  rw [f]
  exact D.T.as _ _ (yJ (g k (ak _) ∅))
 by_cases q:k > 0
 ·rw [if_pos q]
  have c:=I.runA k D.sa λj l _ y a=>by
   have m:=vE D.T D.sb (i:=ib) (x:=pa.getD (ia+j) 0) λy _ a=>by rw [a];exact vx (h j l)
   exact m y a
  by_cases z:ia+k+1=pa.size
  ·rw [if_pos ↥88]
   refine aO ⟨G,?_⟩
   exact c.lastL ∅ ∅ D.sa D.sb λy a x b=>by
    obtain ⟨j,r,p,rfl⟩:=xS b
    rw [show j=pa.size-1 by omega]
    exact U y (fU a)
  ·rw [if_neg ↥37]
   by_cases d:ia+k=pa.size
   ·rw [if_pos (by rw [d];exact beq_self_eq_true _)]
    refine aO ⟨G,?_⟩
    exact c.doneL ∅ ∅ D.sa D.sb λx b y _=>by rw [cM (by rw [aG];omega)] at b;cases b
   ·rw [if_neg (by rw [beq_iff_eq];exact d)]
    exact Y6 hc D U G Y c ∅ h2 ∅ e
 ·rw [if_neg q]
  obtain rfl:k=0:=∅
  exact Y6 hc D U G Y I h1 h2 ht e
noncomputable def R5 (lt:Nat->Nat->Bool) (it:Array Keyed) (pa pb:Array Nat) (st0:SortSt) (t:Nat):ForInStep (Option (Array Keyed)×Array Keyed×Nat×Nat×Nat)->SortSt->Prop:=λr st=>StOk st0 st/\match r with
 | .done (some o,_)=>MgF lt it pa pb o
 | .done (none,_)=>False
 | .yield (none,out,ia,ib,_)=>MgI lt it pa pb out ia ib/\ia+1<pa.size/\ib<pb.size/\t<ia+ib
 | .yield (some _,_)=>False
theorem Ue (hc:Ans prog w A s κ it lt n) (D:Two2 lt n pa pb) (Y:∀y∈pb.toList,LE lt y ↥87) {mg ia ib t:Nat}{st:SortSt}(U:StOk st0 st) (hk:kindOf st0=κ) (I:MgI lt it pa pb out ia ib) (h1:ia+1<pa.size) (h2:ib<pb.size) (ht:t<=ia+ib) :
  wpS (ay prog w) A E s (loT ↥28 ↥29 (none,out,ia,ib,mg)) (R5 lt it pa pb st0 t) st:=by
 unfold loT
 rw [aT,aT]
 dsimp only
 refine aA (cA (c9 (I:=λx c st'=>StOk st0 st'/\∃out ia ib g f,c=(none,out,ia,ib,g,f)/\MgI lt it pa pb out ia ib/\ia+1<pa.size/\ib<pb.size/\t+x<=ia+ib)
  (Q:=λc st'=>R6 lt it pa pb st0 t (.done c) st') ?step ?fin ⟨U,out,ia,ib,0,0,rfl,I,h1,h2,∅⟩) ?post)
 case fin =>
  rintro c st' ⟨b,out,ia,ib,g,f,rfl,v,u,q,B⟩
  omega
 case step =>
  rintro x c st'-H ⟨b,out,ia,ib,g,f,rfl,v,u,q,B⟩
  dsimp only
  refine cA (Wi hc D Y (t:=t+x) b hk v u q B) λr p a=>?_
  obtain ⟨d,a⟩:=a
  rcases r with ⟨e,l,k,j,i,h⟩ | ⟨e,l,k,j,i,h⟩
  ·cases e with
   | some o=>exact ⟨d,a⟩
   | none=>exact ⟨d,a.1,a.2.1,a.2.2.1,by have:=a.2.2.2;omega⟩
  ·cases e with
   | some o=>exact a.elim
   | none=>exact ⟨d,l,k,j,i,h,rfl,a.1,a.2.1,a.2.2.1,by have:=a.2.2.2;omega⟩
 case post =>
  rintro ⟨e,l,k,j,i,h⟩ st' ⟨b,a⟩
  cases e with
  | some o=>exact aO ⟨b,a⟩
  | none =>
   obtain ⟨M,L,K,J⟩:=a
   dsimp only
   refine aA ↥120
   refine aA (cA (c9 (I:=λx c st'=>StOk st0 st'/\∃out ia ib mg g f,c=(none,out,ia,ib,mg,g,f)/\MgI lt it pa pb out ia ib/\ia+1<pa.size/\ib<pb.size/\t+x<ia+ib)
    (Q:=λc st'=>R7 lt it pa pb st0 t (.done c) st') ?step2 ?fin2 ⟨b,l,k,j,_,i,h,rfl,M,L,K,J⟩) ?post2)
   case fin2 =>
    rintro c st' ⟨b,out,ia,ib,mg,g,f,rfl,v,u,q,B⟩
    omega
   case step2 =>
    rintro x c st'-H ⟨b,out,ia,ib,mg,g,f,rfl,v,u,q,B⟩
    dsimp only
    have one:∀m,wpS (ay prog w) A E s (loA ↥28 ↥29 out ia ib m g f) (λr st'=>match r with | .done G=>R7 lt it pa pb st0 t (.done G) st' | .yield G=>StOk st0 st'/\∃out ia ib mg g f,G=(none,out,ia,ib,mg,g,f)/\MgI lt it pa pb out ia ib/\ia+1<pa.size/\ib<pb.size/\t+(x+1)<ia+ib) st':=λm=>by
     refine cA (We hc D Y (t:=t+x+1) b hk v u q ∅) λr p a=>?_
     obtain ⟨d,a⟩:=a
     rcases r with ⟨e,l,k,j,i,h,C⟩ | ⟨e,l,k,j,i,h,C⟩
     ·cases e with
      | some o=>exact ⟨d,a⟩
      | none=>exact ⟨d,a.1,a.2.1,a.2.2.1,by have:=a.2.2.2;omega⟩
     ·cases e with
      | some o=>exact a.elim
      | none=>exact ⟨d,l,k,j,i,h,C,rfl,a.1,a.2.1,a.2.2.1,by have:=a.2.2.2;omega⟩
    by_cases z:mg > 1
    ·rw [if_pos z]
     exact cA (one _) λr p a=>by cases r <;> exact a
    ·rw [if_neg z]
     exact cA (one _) λr p a=>by cases r <;> exact a
   case post2 =>
    rintro ⟨e,l,k,j,i,h,C⟩ st' ⟨b,a⟩
    cases e with
    | some o=>exact aO ⟨b,a⟩
    | none =>
     dsimp only
     exact aA (dm (aO ⟨b.gal _,a⟩))
theorem XO (hc:Ans prog w A s κ it lt n) (D:Two2 lt n pa pb) (ha:1<=pa.size) (hb:1<=pb.size) (h0:∀x∈pa.toList,LE lt (pb.getD 0 0) x) (U:∀y∈pb.toList,LE lt y ↥87) {st:SortSt}(Y:kindOf st=κ) {Q:Array Keyed->SortSt->Prop}
  (h:∀o G,MgF lt it pa pb o->StOk st G->Q o G):wpS (ay prog w) A E s (uv ↥28 ↥29) Q st:=by
 rw [QI]
 refine aA ↥120
 refine aA (jJ ∅ ?_)
 have K:MgI lt it pa pb #[] 0 0:=⟨#[],by simp,by simp,.nil,λx f=>by cases f⟩
 have i:MgI lt it pa pb #[aI it (pb.getD 0 0)] 0 1:=K.pushB ∅ D.sb (by rw [tO];exact h0)
 rw [aT,aT]
 by_cases z:1=pb.size
 ·rw [if_pos (by rw [<- z];rfl)]
  exact aO (h _ _ (i.doneL ∅ ∅ D.sa D.sb λx _ y e=>by rw [cM (by rw [aG];omega)] at e;cases e) (StOk.refl st))
 ·rw [if_neg ↥37]
  by_cases k:0+1=pa.size
  ·rw [if_pos (by rw [k];exact beq_self_eq_true _)]
   exact aO (h _ _ (i.lastL ∅ ∅ D.sa D.sb λy e x f=>by
    obtain ⟨j,M,L,rfl⟩:=xS f
    rw [show j=pa.size-1 by omega]
    exact U y (fU e)) (StOk.refl st))
  ·rw [if_neg (by rw [beq_iff_eq];exact k)]
   refine aA (fP ?_)
   refine aA (cA (c9 (I:=λx c G=>StOk st G/\∃out ia ib mg,c=(none,out,ia,ib,mg)/\MgI lt it pa pb out ia ib/\ia+1<pa.size/\ib<pb.size/\x<=ia+ib)
    (Q:=λc G=>StOk st G/\∃o r,c=(some o,r)/\MgF lt it pa pb o) ?step ?fin ⟨StOk.refl st,_,0,1,_,rfl,i,∅,∅,∅⟩) ?post)
   case fin =>
    rintro c G ⟨b,out,ia,ib,mg,rfl,C,B,v,u⟩
    omega
   case step =>
    rintro x c G-f ⟨b,out,ia,ib,mg,rfl,C,B,v,u⟩
    refine cA (Ue hc D U (t:=x) b Y C B v u) λr H a=>?_
    obtain ⟨d,a⟩:=a
    rcases r with ⟨g,q,p,m,l⟩ | ⟨g,q,p,m,l⟩
    ·cases g with
     | some o=>exact ⟨d,o,_,rfl,a⟩
     | none=>exact a.elim
    ·cases g with
     | some o=>exact a.elim
     | none=>exact ⟨d,q,p,m,l,rfl,a.1,a.2.1,a.2.2.1,by have:=a.2.2.2;omega⟩
   case post =>
    rintro c G ⟨b,o,r,rfl,J⟩
    exact aO (h o G J b)
end
noncomputable def uC:Array Keyed->Array Keyed->StateT SortSt Sem (Array Keyed):=sortPriv% PySem.Builtin.mergeHi
theorem Qi (a b:Array Keyed):uC a b=(do
 rule "list.sort.merge-hi"
 let total:=a.size+b.size
 let done (out:Array Keyed) (na nb:Nat):=a.extract 0 na++b.extract 0 nb++out.reverse
 let firstOfB (out:Array Keyed) (na nb:Nat):=b.extract 0 nb++a.extract 0 na++out.reverse
 let mut na:=a.size-1
 let mut nb:=b.size
 let mut out:Array Keyed:=#[<- cT a na]
 if na == 0 then return done out na nb
 if nb == 1 then return firstOfB out na nb
 let mut minGallop:=tN (<- get)
 for _ in [0:total] do
  let mut acount:=0
  let mut bcount:=0
  for _ in [0:total] do
   let some aWins <- lt' (<- cT b (nb-1)) (<- cT a (na-1)) | return done out na nb
   if aWins then
    na:=na-1;out:=out.push (<- cT a na);acount:=acount+1;bcount:=0
    if na == 0 then return done out na nb
    if acount>=minGallop then break
   else
    nb:=nb-1;out:=out.push (<- cT b nb);bcount:=bcount+1;acount:=0
    if nb == 1 then return firstOfB out na nb
    if bcount>=minGallop then break
  rule "list.sort.gallop"
  minGallop:=minGallop+1
  for _ in [0:total] do
   if minGallop > 1 then minGallop:=minGallop-1
   modify (λs=>yH s minGallop)
   let some at_ <- xm false (<- cT b (nb-1)) a 0 na (na-1) | return done out na nb
   let k:=na-at_
   acount:=k
   if k > 0 then
    out:=out++(a.extract at_ na).reverse;na:=at_
    if na == 0 then return done out na nb
   nb:=nb-1;out:=out.push (<- cT b nb)
   if nb == 1 then return firstOfB out na nb
   let some at_ <- xm true (<- cT a (na-1)) b 0 nb (nb-1) | return done out na nb
   let k:=nb-at_
   bcount:=k
   if k > 0 then
    out:=out++(b.extract at_ nb).reverse;nb:=at_
    if nb == 1 then return firstOfB out na nb
    if nb == 0 then return done out na nb
   na:=na-1;out:=out.push (<- cT a na)
   if na == 0 then return done out na nb
   if acount<7 && bcount<7 then break
  minGallop:=minGallop+1
  modify (λs=>yH s minGallop)
 mx "internal:list.sort.merge-bound"):=rfl
noncomputable abbrev U6:=Option (Array Keyed)×Nat×Nat×Array Keyed×Nat×Nat
noncomputable abbrev U7:=Option (Array Keyed)×Nat×Nat×Array Keyed×Nat×Nat×Nat
noncomputable abbrev doneH (a b out:Array Keyed) (na nb:Nat):Array Keyed:=a.extract 0 na++b.extract 0 nb++out.reverse
noncomputable abbrev fstH (a b out:Array Keyed) (na nb:Nat):Array Keyed:=b.extract 0 nb++a.extract 0 na++out.reverse
noncomputable def hi1 (a b out:Array Keyed) (mg na nb ac bc:Nat):StateT SortSt Sem (ForInStep U6):=do
 let __x <- lt' (<- cT b (nb-1)) (<- cT a (na-1))
 match __x with
 | some aWins =>
  if aWins then
   let e <- cT a (na-1)
   if na-1 == 0 then return .done (some (doneH a b (out.push e) (na-1) nb),na-1,nb,out.push e,ac+1,0)
   if ac+1>=mg then return .done (none,na-1,nb,out.push e,ac+1,0)
   return .yield (none,na-1,nb,out.push e,ac+1,0)
  else
   let e <- cT b (nb-1)
   if nb-1 == 1 then return .done (some (fstH a b (out.push e) na (nb-1)),na,nb-1,out.push e,0,bc+1)
   if bc+1>=mg then return .done (none,na,nb-1,out.push e,0,bc+1)
   return .yield (none,na,nb-1,out.push e,0,bc+1)
 | _=>return .done (some (doneH a b out na nb),na,nb,out,ac,bc)
noncomputable def hiC (a b out:Array Keyed) (na nb mg ac bc:Nat):StateT SortSt Sem (ForInStep U7):=do
 let e <- cT a (na-1)
 if na-1 == 0 then return .done (some (doneH a b (out.push e) (na-1) nb),na-1,nb,out.push e,mg,ac,bc)
 if ac<7 && bc<7 then return .done (none,na-1,nb,out.push e,mg,ac,bc)
 return .yield (none,na-1,nb,out.push e,mg,ac,bc)
noncomputable def hiB (a b out:Array Keyed) (na nb mg ac bc:Nat):StateT SortSt Sem (ForInStep U7):=do
 let e <- cT b (nb-1)
 if nb-1 == 1 then return .done (some (fstH a b (out.push e) na (nb-1)),na,nb-1,out.push e,mg,ac,bc)
 let __x <- xm true (<- cT a (na-1)) b 0 (nb-1) (nb-1-1)
 match __x with
 | some k =>
  if nb-1-k > 0 then
   if k == 1 then return .done (some (fstH a b (out.push e++(b.extract k (nb-1)).reverse) na k),na,k,out.push e++(b.extract k (nb-1)).reverse,mg,ac,nb-1-k)
   if k == 0 then return .done (some (doneH a b (out.push e++(b.extract k (nb-1)).reverse) na k),na,k,out.push e++(b.extract k (nb-1)).reverse,mg,ac,nb-1-k)
   hiC a b (out.push e++(b.extract k (nb-1)).reverse) na k mg ac (nb-1-k)
  else hiC a b (out.push e) na (nb-1) mg ac (nb-1-k)
 | _=>return .done (some (doneH a b (out.push e) na (nb-1)),na,nb-1,out.push e,mg,ac,bc)
noncomputable def hiA (a b out:Array Keyed) (na nb mg ac bc:Nat):StateT SortSt Sem (ForInStep U7):=do
 modify (λs=>yH s mg)
 let __x <- xm false (<- cT b (nb-1)) a 0 na (na-1)
 match __x with
 | some k =>
  if na-k > 0 then
   if k == 0 then return .done (some (doneH a b (out++(a.extract k na).reverse) k nb),k,nb,out++(a.extract k na).reverse,mg,na-k,bc)
   hiB a b (out++(a.extract k na).reverse) k nb mg (na-k) bc
  else hiB a b out na nb mg (na-k) bc
 | _=>return .done (some (doneH a b out na nb),na,nb,out,mg,ac,bc)
noncomputable def hiT (a b:Array Keyed) (c:Option (Array Keyed)×Nat×Nat×Array Keyed×Nat):StateT SortSt Sem (ForInStep (Option (Array Keyed)×Nat×Nat×Array Keyed×Nat)):=do
 let d <- mU [0:a.size+b.size] (none,c.2.1,c.2.2.1,c.2.2.2.1,0,0) λ_ d=>hi1 a b d.2.2.2.1 c.2.2.2.2 d.2.1 d.2.2.1 d.2.2.2.2.1 d.2.2.2.2.2
 match d.1 with
 | some r=>return .done (some r,d.2.1,d.2.2.1,d.2.2.2.1,c.2.2.2.2)
 | none =>
  rule "list.sort.gallop"
  let g <- mU [0:a.size+b.size] (none,d.2.1,d.2.2.1,d.2.2.2.1,c.2.2.2.2+1,d.2.2.2.2.1,d.2.2.2.2.2) λ_ g =>
   if g.2.2.2.2.1 > 1 then hiA a b g.2.2.2.1 g.2.1 g.2.2.1 (g.2.2.2.2.1-1) g.2.2.2.2.2.1 g.2.2.2.2.2.2 else hiA a b g.2.2.2.1 g.2.1 g.2.2.1 g.2.2.2.2.1 g.2.2.2.2.2.1 g.2.2.2.2.2.2
  match g.1 with
  | some r=>return .done (some r,g.2.1,g.2.2.1,g.2.2.2.1,g.2.2.2.2.1)
  | none =>
   modify (λs=>yH s (g.2.2.2.2.1+1))
   return .yield (none,g.2.1,g.2.2.1,g.2.2.2.1,g.2.2.2.2.1+1)
set_option maxHeartbeats 4000000 in
theorem Xf (a b:Array Keyed):uC a b=(do
 rule "list.sort.merge-hi"
 let e <- cT a (a.size-1)
 if a.size-1 == 0 then return doneH a b #[e] (a.size-1) b.size
 if b.size == 1 then return fstH a b #[e] (a.size-1) b.size
 let s <- get
 let c <- mU [0:a.size+b.size] (none,a.size-1,b.size,#[e],tN s) λ_ c=>hiT a b c
 match c.1 with
 | some r=>return r
 | none=>mx "internal:list.sort.merge-bound"):=by
 rw [Qi]
 dsimp only
 have ic:∀{α:Type} (c:Prop) [Decidable c] {x y x' y':α},x=x'->y=y'->(if c then x else y)=(if c then x' else y'):=λc _ _ _ _ _ h1 h2=>by rw [h1,h2]
 congr 1;funext _;congr 1;funext e
 refine ic _ rfl (ic _ rfl ?_)
 congr 1;funext s;congr 1
 ·congr 1;funext x c
  unfold hiT
  congr 1
  funext d
  rcases d with ⟨d1,d2⟩
  cases d1 with
  | some r=>rfl
  | none =>
   dsimp only
   congr 1
   funext _
   congr 1
   funext g
   rcases g with ⟨g1,g2⟩
   cases g1 <;> rfl
 ·funext c
  rcases c with ⟨c1,c2⟩
  cases c1 <;> rfl
noncomputable abbrev dual (lt:Nat->Nat->Bool):Nat->Nat->Bool:=λi j=>lt j i
section
variable {lt:Nat->Nat->Bool}{it:Array Keyed}{pa pb:Array Nat}{n:Nat}
theorem Tot.dual (T:Tot lt):Tot (dual lt):=⟨λi j k h1 h2=>T.tr k j i h2 h1,λi j h=>T.as j i h⟩
theorem gR (p:Array Nat) {i:Nat}(h:i<p.size):p.reverse.getD i 0=p.getD (p.size-1-i) 0:=by
 rw [av,av,Array.getElem?_reverse h]
theorem yd (p:Array Nat) {k:Nat}(h:k<=p.size):p.reverse.toList.drop (p.size-k)=(p.toList.take k).reverse:=by
 rw [cf,rQ,aG]
theorem vD {α:Type}(q:Array α) {i j:Nat}(h1:i<=j) (h2:j<=q.size):q.reverse.extract (q.size-j) (q.size-i)=(q.extract i j).reverse:=by
 apply Array.toList_inj.mp
 rw [cU,cf,cf,cU]
 show (q.toList.reverse.drop (q.size-j)).take (q.size-i-(q.size-j))=((q.toList.drop i).take (j-i)).reverse
 rw [show q.size-i-(q.size-j)=j-i by omega,<- aG,<- rQ,<- List.drop_take,List.reverse_drop,aY,Nat.min_eq_left (by rw [aG];exact h2)]
theorem Two2.dual (D:Two2 lt n pa pb):Two2 (dual lt) n pb.reverse pa.reverse:=by
 have b:0<n:=by
  have:=D.na pa.size
  omega
 have a:∀{p:Array Nat},(∀i,p.getD i 0<n)->∀i,p.reverse.getD i 0<n:=λ{p} h i=>by
  by_cases z:i<p.size
  ·rw [gR p z];exact h _
  ·rw [av,iJ (by rw [c6];omega)]
   exact b
 refine ⟨D.T.dual,a D.nb,a D.na,?_,?_⟩
 ·rw [cf,iR]
  exact D.sb
 ·rw [cf,iR]
  exact D.sa
theorem MgF.dual (h:MgF (dual lt) it pb.reverse pa.reverse o):MgF lt it pa pb o.reverse:=by
 obtain ⟨a,rfl,h1,h2⟩:=h
 refine ⟨a.reverse,by rw [dB],?_,?_⟩
 ·rw [cf]
  refine (mz _).trans (h1.trans ?_)
  rw [cf,cf]
  exact ((mz _).append (mz _)).trans oq
 ·rw [cf,iR]
  exact h2
noncomputable def MgJ (lt:Nat->Nat->Bool) (it:Array Keyed) (pa pb:Array Nat) (out:Array Keyed) (na nb:Nat):Prop:=MgI (L2.dual lt) it pb.reverse pa.reverse out (pb.size-nb) (pa.size-na)
variable {out:Array Keyed}{na nb:Nat}
theorem MgJ.runA (D:Two2 lt n pa pb) (h:MgJ lt it pa pb out na nb) {k:Nat}(U:k<=na) (I:na<=pa.size) (Y:nb<=pb.size) (G:∀j,k<=j->j<na->∀y∈pb.toList.take nb,LE lt y (pa.getD j 0)):MgJ lt it pa pb (out++((↥28).extract k na).reverse) k nb:=by
 have:=MgI.runB h (na-k) D.dual.sb λj c a y b=>by
  rw [c6] at a
  rw [yd pb Y] at b
  rw [gR pa a]
  exact G _ ∅ ∅ y (List.mem_reverse.mp b)
 rw [dB,show pa.size-na+(na-k)=pa.size-k by omega] at this
 have e:=vD ↥28 U (by rw [aT];exact I)
 rw [aT] at e
 rw [e] at this
 exact this
theorem MgJ.runB (D:Two2 lt n pa pb) (h:MgJ lt it pa pb out na nb) {k:Nat}(U:k<=nb) (I:na<=pa.size) (Y:nb<=pb.size) (G:∀j,k<=j->j<nb->∀y∈pa.toList.take na,LE lt y (pb.getD j 0)):MgJ lt it pa pb (out++((↥29).extract k nb).reverse) na k:=by
 have:=MgI.runA h (nb-k) D.dual.sa λj c a y b=>by
  rw [c6] at a
  rw [yd pa I] at b
  rw [gR pb a]
  exact G _ ∅ ∅ y (List.mem_reverse.mp b)
 rw [dB,show pb.size-nb+(nb-k)=pb.size-k by omega] at this
 have e:=vD ↥29 U (by rw [aT];exact Y)
 rw [aT] at e
 rw [e] at this
 exact this
theorem ZU (p:Array Nat) {i:Nat}(j:0<i) (h:i<=p.size):((p.map (aI it)).extract (i-1) i).reverse = #[aI it (p.getD (i-1) 0)]:=by
 have:=Qu (it:=it) p (show i-1<p.size by omega)
 rw [show i-1+1=i by omega] at this
 rw [this]
 rfl
theorem MgJ.pushA (D:Two2 lt n pa pb) (h:MgJ lt it pa pb out na nb) (Y:0<na) (G:na<=pa.size) (U:nb<=pb.size) (I:∀y∈pb.toList.take nb,LE lt y (pa.getD (na-1) 0)):MgJ lt it pa pb (out.push (aI it (pa.getD (na-1) 0))) (na-1) nb:=by
 have:=h.runA D (show na-1<=na by omega) G U λj h1 h2 y a=>by rw [show j=na-1 by omega];exact I y a
 rw [ZU pa Y G] at this
 rw [fT]
 exact this
theorem MgJ.pushB (D:Two2 lt n pa pb) (h:MgJ lt it pa pb out na nb) (Y:0<nb) (U:na<=pa.size) (G:nb<=pb.size) (I:∀y∈pa.toList.take na,LE lt y (pb.getD (nb-1) 0)):MgJ lt it pa pb (out.push (aI it (pb.getD (nb-1) 0))) na (nb-1):=by
 have:=h.runB D (show nb-1<=nb by omega) U G λj h1 h2 y a=>by rw [show j=nb-1 by omega];exact I y a
 rw [ZU pb Y G] at this
 rw [fT]
 exact this
theorem MgJ.doneH (D:Two2 lt n pa pb) (h:MgJ lt it pa pb out na nb) (j:na<=pa.size) (G:nb<=pb.size) (I:∀x∈pa.toList.take na,∀y∈pb.toList.take nb,LE lt x y):MgF lt it pa pb (doneH ↥28 ↥29 out na nb):=by
 have:=(MgI.doneL h (by rw [c6];omega) (by rw [c6];omega) D.dual.sa D.dual.sb λx b y a=>by
  rw [yd pb G] at b
  rw [yd pa j] at a
  exact I y (List.mem_reverse.mp a) x (List.mem_reverse.mp b)).dual
 have d:=vD ↥28 (aB na) (by rw [aT];exact j)
 have c:=vD ↥29 (aB nb) (by rw [aT];exact G)
 rw [aT,Nat.sub_zero] at d c
 unfold L2.doneL at this
 rw [dB,dB,c6,c6,aT,aT,d,c,fV,fV,fJ,fJ,<- lS] at this
 exact this
theorem MgJ.fstH (D:Two2 lt n pa pb) (h:MgJ lt it pa pb out na nb) (j:na<=pa.size) (G:nb<=pb.size) (I:∀y∈pb.toList.take nb,∀x∈pa.toList.take na,LE lt y x):MgF lt it pa pb (fstH ↥28 ↥29 out na nb):=by
 have:=(MgI.lastL h (by rw [c6];omega) (by rw [c6];omega) D.dual.sa D.dual.sb λx b y a=>by
  rw [yd pa j] at b
  rw [yd pb G] at a
  exact I y (List.mem_reverse.mp a) x (List.mem_reverse.mp b)).dual
 have d:=vD ↥28 (aB na) (by rw [aT];exact j)
 have c:=vD ↥29 (aB nb) (by rw [aT];exact G)
 rw [aT,Nat.sub_zero] at d c
 unfold L2.lastL at this
 rw [dB,dB,c6,c6,aT,aT,d,c,fV,fV,fJ,fJ,<- lS] at this
 exact this
end
section
variable {prog:Program}{w:bx}{A:bC}{E:ai->Shared->Prop}{s:Shared}{κ:di}{it:Array Keyed}{lt:Nat->Nat->Bool}{n:Nat}{pa pb:Array Nat}{st0:SortSt}
theorem ym {p:Array Nat}{k x:Nat}(h:x∈p.toList.take k):∃j,j<k/\j<p.size/\x=p.getD j 0:=by
 obtain ⟨j,a,e⟩:=List.mem_iff_getElem.mp h
 rw [aY,aG] at a
 refine ⟨j,∅,∅,?_⟩
 rw [<- e,iF,bY,av,aZ ∅]
 rfl
theorem vv (T:Tot lt) {p:Array Nat}(G:p.toList.Pairwise (LE lt)) {i x:Nat}(hi:i<=p.size) (h:0<i->LE lt (p.getD (i-1) 0) x):∀y∈p.toList.take i,LE lt y x:=λy a=>by
 obtain ⟨j,c,b,rfl⟩:=ym a
 by_cases e:j=i-1
 ·rw [e];exact h ∅
 ·exact T.tr _ _ _ (yc T G (show j<i-1 by omega) ∅) (h ∅)
structure HiI (lt:Nat->Nat->Bool) (it:Array Keyed) (pa pb:Array Nat) (t:Nat) (out:Array Keyed) (na nb:Nat):Prop where
 I:MgJ lt it pa pb out na nb
 a0:0<na
 a1:na<=pa.size
 b0:1<nb
 b1:nb<=pb.size
 t:na+nb+t<pa.size+pb.size
noncomputable def H6 (lt:Nat->Nat->Bool) (it:Array Keyed) (pa pb:Array Nat) (st0:SortSt) (t:Nat):ForInStep U6->SortSt->Prop:=λr st=>StOk st0 st/\match r with
 | .done (some o,_)=>MgF lt it pa pb o
 | .done (none,na,nb,out,_)=>HiI lt it pa pb t out na nb
 | .yield (none,na,nb,out,_)=>HiI lt it pa pb t out na nb
 | .yield (some _,_)=>False
noncomputable def H7 (lt:Nat->Nat->Bool) (it:Array Keyed) (pa pb:Array Nat) (st0:SortSt) (t:Nat):ForInStep U7->SortSt->Prop:=λr st=>StOk st0 st/\match r with
 | .done (some o,_)=>MgF lt it pa pb o
 | .done (none,na,nb,out,_)=>HiI lt it pa pb t out na nb
 | .yield (none,na,nb,out,_)=>HiI lt it pa pb t out na nb
 | .yield (some _,_)=>False
theorem uE {p:Array Nat}{x:Nat}{P:Prop}(h:x∈p.toList.take 0):P:=by rw [iI] at h;cases h
theorem Uk (hc:Ans prog w A s κ it lt n) (D:Two2 lt n pa pb) (h0:∀x∈pa.toList,LE lt (pb.getD 0 0) x) {mg na nb ac bc t:Nat}{st:SortSt}(G:StOk st0 st) (hk:kindOf st0=κ) (I:MgJ lt it pa pb out na nb) (a0:0<na) (Y:na<=pa.size) (b0:1<nb) (U:nb<=pb.size) (ht:na+nb+t<=pa.size+pb.size) :
  wpS (ay prog w) A E s (hi1 ↥28 ↥29 out mg na nb ac bc) (H6 lt it pa pb st0 t) st:=by
 unfold hi1
 refine aA (jJ ∅ (aA (jJ ∅ (aA (kR hc (D.nb _) (D.na _) (G.k.trans hk) ?_)))))
 dsimp only
 cases e:lt (pb.getD (nb-1) 0) (pa.getD (na-1) 0) with
 | true =>
  rw [if_pos rfl]
  refine aA (jJ ∅ ?_)
  have a:=I.pushA D a0 Y U (vv D.T D.sb U λ_=>D.T.as _ _ e)
  by_cases z:na-1=0
  ·rw [if_pos (by rw [z];rfl)]
   refine aO ⟨G,?_⟩
   exact a.doneH D ∅ U λx b y _=>by rw [z] at b;exact uE b
  ·rw [if_neg ↥37]
   by_cases q:ac+1>=mg
   ·rw [if_pos q]
    exact aO ⟨G,a,∅,∅,b0,U,∅⟩
   ·rw [if_neg q]
    exact aO ⟨G,a,∅,∅,b0,U,∅⟩
 | false =>
  rw [if_neg aq]
  refine aA (jJ ∅ ?_)
  have a:=I.pushB D ∅ Y U (vv D.T D.sa Y λ_=>e)
  by_cases z:nb-1=1
  ·rw [if_pos (by rw [z];rfl)]
   refine aO ⟨G,?_⟩
   exact a.fstH D Y ∅ λy c x b=>by
    obtain ⟨j,f,d,rfl⟩:=ym c
    rw [show j=0 by omega]
    exact h0 x (eF b)
  ·rw [if_neg ↥37]
   by_cases q:bc+1>=mg
   ·rw [if_pos q]
    exact aO ⟨G,a,a0,Y,∅,∅,∅⟩
   ·rw [if_neg q]
    exact aO ⟨G,a,a0,Y,∅,∅,∅⟩
theorem Y0 (D:Two2 lt n pa pb) {mg na nb ac U t:Nat}{st:SortSt}(j:StOk st0 st) (I:MgJ lt it pa pb out na nb) (a0:0<na) (a1:na<=pa.size) (Y:1<nb) (G:nb<=pb.size) (ht:na+nb+t<=pa.size+pb.size) (hr:∀y∈pb.toList.take nb,LE lt y (pa.getD (na-1) 0)) :
  wpS (ay prog w) A E s (hiC ↥28 ↥29 out na nb mg ac U) (H7 lt it pa pb st0 t) st:=by
 unfold hiC
 refine aA (jJ ∅ ?_)
 have a:=I.pushA D a0 a1 G hr
 by_cases z:na-1=0
 ·rw [if_pos (by rw [z];rfl)]
  refine aO ⟨j,?_⟩
  exact a.doneH D ∅ G λx b y _=>by rw [z] at b;exact uE b
 ·rw [if_neg ↥37]
  by_cases q:(decide (ac<7) && decide (U<7))=true
  ·rw [if_pos q]
   exact aO ⟨j,a,∅,∅,Y,G,∅⟩
  ·rw [if_neg q]
   exact aO ⟨j,a,∅,∅,Y,G,∅⟩
theorem QD {left:Bool}{key:Nat}(i:Nat):byd lt left key p (0+i)=byd lt left key p i:=by rw [dq]
theorem Y5 (hc:Ans prog w A s κ it lt n) (D:Two2 lt n pa pb) (h0:∀x∈pa.toList,LE lt (pb.getD 0 0) x) {mg na nb ac bc t:Nat}{st:SortSt}(G:StOk st0 st) (Y:kindOf st0=κ) (I:MgJ lt it pa pb out na nb) (a0:0<na) (U:na<=pa.size) (b0:1<nb) (b1:nb<=pb.size) (ht:na+nb+t<=pa.size+pb.size) (hr:∀y∈pa.toList.take na,LE lt y (pb.getD (nb-1) 0)) :
  wpS (ay prog w) A E s (hiB ↥28 ↥29 out na nb mg ac bc) (H7 lt it pa pb st0 t) st:=by
 unfold hiB
 refine aA (jJ ∅ ?_)
 have f:=I.pushB D ∅ U b1 hr
 have fst:∀{k:Nat} {o:Array Keyed},k=1->MgJ lt it pa pb o na k->MgF lt it pa pb (fstH ↥28 ↥29 o na k):=λ{k} {o} Y J=>J.fstH D U ∅ λy a x m=>by
  obtain ⟨j,l,i,rfl⟩:=ym a
  rw [show j=0 by omega]
  exact h0 x (eF m)
 by_cases z:nb-1=1
 ·rw [if_pos (by rw [z];rfl)]
  exact aO ⟨G,fst z f⟩
 ·rw [if_neg ↥37]
  refine aA (jJ ∅ (aA (xW hc (D.na _) ∅ D.nb ∅ (Ju D.T D.sb ∅) (G.k.trans Y) λk k1 h g=>?_)))
  simp only [QD] at h g
  dsimp only
  have d:∀y∈pb.toList.take k,LE lt y (pa.getD (na-1) 0):=vv D.T D.sb ∅ λp=>D.T.as _ _ (h (k-1) ∅)
  by_cases q:nb-1-k > 0
  ·rw [if_pos q]
   have e:=f.runB D (k:=k) ∅ U ∅ λj l i y a=>vv D.T D.sa U (λ_=>g j l i) y a
   by_cases b:k=1
   ·rw [if_pos (by rw [b];rfl)]
    exact aO ⟨G,fst b e⟩
   ·rw [if_neg (by rw [beq_iff_eq];exact b)]
    by_cases c:k=0
    ·rw [if_pos (by rw [c];rfl)]
     refine aO ⟨G,?_⟩
     exact e.doneH D U ∅ λx _ y a=>by rw [c] at a;exact uE a
    ·rw [if_neg (by rw [beq_iff_eq];exact c)]
     exact Y0 D G e a0 U ∅ ∅ ∅ d
  ·rw [if_neg q]
   rw [show k=nb-1 by omega] at d
   exact Y0 D G f a0 U ∅ ∅ ∅ d
theorem UB (hc:Ans prog w A s κ it lt n) (D:Two2 lt n pa pb) (h0:∀x∈pa.toList,LE lt (pb.getD 0 0) x) {mg na nb ac bc t:Nat}{st:SortSt}(G:StOk st0 st) (Y:kindOf st0=κ) (I:MgJ lt it pa pb out na nb) (a0:0<na) (a1:na<=pa.size) (b0:1<nb) (U:nb<=pb.size) (ht:na+nb+t<=pa.size+pb.size) :
  wpS (ay prog w) A E s (hiA ↥28 ↥29 out na nb mg ac bc) (H7 lt it pa pb st0 t) st:=by
 unfold hiA
 refine aA (dm ?_)
 have G:=G.gal mg
 refine aA (jJ ∅ (aA (xW hc (D.nb _) ∅ D.na ∅ (hX D.T D.sa ∅) (G.k.trans Y) λk k1 d c=>?_)))
 simp only [QD] at d c
 dsimp only
 have b:∀y∈pa.toList.take k,LE lt y (pb.getD (nb-1) 0):=vv D.T D.sa ∅ λl=>vx (d (k-1) ∅)
 by_cases q:na-k > 0
 ·rw [if_pos q]
  have f:=I.runA D (k:=k) ∅ a1 U λj h g y i=>vv D.T D.sb U (λ_=>D.T.as _ _ (yJ (c j h g))) y i
  by_cases a:k=0
  ·rw [if_pos (by rw [a];rfl)]
   refine aO ⟨G,?_⟩
   exact f.doneH D ∅ U λx e y _=>by rw [a] at e;exact uE e
  ·rw [if_neg (by rw [beq_iff_eq];exact a)]
   exact Y5 hc D h0 G Y f ∅ ∅ b0 U ∅ b
 ·rw [if_neg q]
  rw [show k=na by omega] at b
  exact Y5 hc D h0 G Y I a0 a1 b0 U ht b
noncomputable def H5 (lt:Nat->Nat->Bool) (it:Array Keyed) (pa pb:Array Nat) (st0:SortSt) (t:Nat):ForInStep (Option (Array Keyed)×Nat×Nat×Array Keyed×Nat)->SortSt->Prop:=λr st=>StOk st0 st/\match r with
 | .done (some o,_)=>MgF lt it pa pb o
 | .done (none,_)=>False
 | .yield (none,na,nb,out,_)=>HiI lt it pa pb t out na nb
 | .yield (some _,_)=>False
theorem Uc (Y:Ans prog w A s κ it lt n) (D:Two2 lt n pa pb) (h0:∀x∈pa.toList,LE lt (pb.getD 0 0) x) {mg na nb t:Nat}{st:SortSt}(G:StOk st0 st) (U:kindOf st0=κ) (I:MgJ lt it pa pb out na nb) (a0:0<na) (a1:na<=pa.size) (b0:1<nb) (b1:nb<=pb.size) (ht:na+nb+t<=pa.size+pb.size) :
  wpS (ay prog w) A E s (hiT ↥28 ↥29 (none,na,nb,out,mg)) (H5 lt it pa pb st0 t) st:=by
 unfold hiT
 rw [aT,aT]
 dsimp only
 refine aA (cA (c9 (I:=λx c st'=>StOk st0 st'/\∃na nb out g f,c=(none,na,nb,out,g,f)/\MgJ lt it pa pb out na nb/\0<na/\na<=pa.size/\1<nb/\nb<=pb.size/\na+nb+(t+x)<=pa.size+pb.size)
  (Q:=λc st'=>H6 lt it pa pb st0 t (.done c) st') ?step ?fin ⟨G,na,nb,out,0,0,rfl,I,a0,a1,b0,b1,∅⟩) ?post)
 case fin =>
  rintro c st' ⟨b,na,nb,out,g,f,rfl,L,K,H,B,y,C⟩
  omega
 case step =>
  rintro x c st'-M ⟨b,na,nb,out,g,f,rfl,L,K,H,B,y,C⟩
  dsimp only
  refine cA (Uk Y D h0 (t:=t+x) b U L K H B y C) λr p a=>?_
  obtain ⟨d,a⟩:=a
  rcases r with ⟨e,l,k,j,i,h⟩ | ⟨e,l,k,j,i,h⟩
  ·cases e with
   | some o=>exact ⟨d,a⟩
   | none=>exact ⟨d,a.I,a.a0,a.a1,a.b0,a.b1,by have:=a.t;omega⟩
  ·cases e with
   | some o=>exact a.elim
   | none=>exact ⟨d,l,k,j,i,h,rfl,a.I,a.a0,a.a1,a.b0,a.b1,by have:=a.t;omega⟩
 case post =>
  rintro ⟨e,l,k,j,i,h⟩ st' ⟨b,a⟩
  cases e with
  | some o=>exact aO ⟨b,a⟩
  | none =>
   obtain ⟨T,S,R,P,O,N⟩:=a
   dsimp only
   refine aA ↥120
   refine aA (cA (c9 (I:=λx c st'=>StOk st0 st'/\∃na nb out mg g f,c=(none,na,nb,out,mg,g,f)/\HiI lt it pa pb (t+x) out na nb)
    (Q:=λc st'=>H7 lt it pa pb st0 t (.done c) st') ?step2 ?fin2 ⟨b,l,k,j,_,i,h,rfl,T,S,R,P,O,N⟩) ?post2)
   case fin2 =>
    rintro c st' ⟨b,na,nb,out,mg,g,f,rfl,J⟩
    have:=J.t
    omega
   case step2 =>
    rintro x c st'-M ⟨b,na,nb,out,mg,g,f,rfl,J⟩
    dsimp only
    have one:∀m,wpS (ay prog w) A E s (hiA ↥28 ↥29 out na nb m g f) (H7 lt it pa pb st0 (t+x+1)) st':=λm=>UB Y D h0 b U J.I J.a0 J.a1 J.b0 J.b1 (by have:=J.t;omega)
    have q:∀m,wpS (ay prog w) A E s (hiA ↥28 ↥29 out na nb m g f) (λr st'=>match r with | .done v=>H7 lt it pa pb st0 t (.done v) st' | .yield v=>StOk st0 st'/\∃na nb out mg g f,v=(none,na,nb,out,mg,g,f)/\HiI lt it pa pb (t+(x+1)) out na nb) st':=λm=>by
     refine cA (one m) λr p a=>?_
     obtain ⟨d,a⟩:=a
     rcases r with ⟨e,l,k,j,i,h,u⟩ | ⟨e,l,k,j,i,h,u⟩
     ·cases e with
      | some o=>exact ⟨d,a⟩
      | none=>exact ⟨d,a.I,a.a0,a.a1,a.b0,a.b1,by have:=a.t;omega⟩
     ·cases e with
      | some o=>exact a.elim
      | none=>exact ⟨d,l,k,j,i,h,u,rfl,a⟩
    by_cases z:mg > 1
    ·rw [if_pos z]
     exact cA (q _) λr p a=>by cases r <;> exact a
    ·rw [if_neg z]
     exact cA (q _) λr p a=>by cases r <;> exact a
   case post2 =>
    rintro ⟨e,l,k,j,i,h,u⟩ st' ⟨b,a⟩
    cases e with
    | some o=>exact aO ⟨b,a⟩
    | none =>
     dsimp only
     exact aA (dm (aO ⟨b.gal _,a⟩))
theorem Xc (hc:Ans prog w A s κ it lt n) (D:Two2 lt n pa pb) (ha:1<=pa.size) (hb:1<=pb.size) (U:∀x∈pa.toList,LE lt (pb.getD 0 0) x) (Y:∀y∈pb.toList,LE lt y ↥87) {st:SortSt}(hk:kindOf st=κ) {Q:Array Keyed->SortSt->Prop}
  (h:∀o G,MgF lt it pa pb o->StOk st G->Q o G):wpS (ay prog w) A E s (uC ↥28 ↥29) Q st:=by
 rw [Xf]
 refine aA ↥120
 rw [aT,aT]
 refine aA (jJ ∅ ?_)
 have M:MgJ lt it pa pb #[] pa.size pb.size:=⟨#[],by simp,by simp,.nil,λx b=>by cases b⟩
 have i:MgJ lt it pa pb #[aI it ↥87] (pa.size-1) pb.size:=M.pushA D ∅ (ak _) (ak _) (λy g=>Y y (eF g))
 by_cases z:pa.size-1=0
 ·rw [if_pos (by rw [z];rfl)]
  exact aO (h _ _ (i.doneH D ∅ (ak _) λx b y _=>by rw [z] at b;exact uE b) (StOk.refl st))
 ·rw [if_neg ↥37]
  by_cases k:pb.size=1
  ·rw [if_pos (by rw [k];rfl)]
   exact aO (h _ _ (i.fstH D ∅ (ak _) λy g x b=>by
    obtain ⟨j,O,N,rfl⟩:=ym g
    rw [show j=0 by omega]
    exact U x (eF b)) (StOk.refl st))
  ·rw [if_neg (by rw [beq_iff_eq];exact k)]
   refine aA (fP ?_)
   refine aA (cA (c9 (I:=λx c G=>StOk st G/\∃na nb out mg,c=(none,na,nb,out,mg)/\MgJ lt it pa pb out na nb/\0<na/\na<=pa.size/\1<nb/\nb<=pb.size/\na+nb+x<=pa.size+pb.size)
    (Q:=λc G=>StOk st G/\∃o r,c=(some o,r)/\MgF lt it pa pb o) ?step ?fin ⟨StOk.refl st,_,_,_,_,rfl,i,∅,∅,∅,∅,∅⟩) ?post)
   case fin =>
    rintro c G ⟨d,na,nb,out,mg,rfl,J,H,C,v,u,B⟩
    omega
   case step =>
    rintro x c G-b ⟨d,na,nb,out,mg,rfl,J,H,C,v,u,B⟩
    refine cA (Uc hc D U (t:=x) d hk J H C v u B) λr K a=>?_
    obtain ⟨e,a⟩:=a
    rcases r with ⟨f,q,p,m,l⟩ | ⟨f,q,p,m,l⟩
    ·cases f with
     | some o=>exact ⟨e,o,_,rfl,a⟩
     | none=>exact a.elim
    ·cases f with
     | some o=>exact a.elim
     | none=>exact ⟨e,q,p,m,l,rfl,a.I,a.a0,a.a1,a.b0,a.b1,by have:=a.t;omega⟩
   case post =>
    rintro c G ⟨d,o,r,rfl,L⟩
    exact aO (h o G L d)
end
section
variable {prog:Program}{w:bx}{A:bC}{E:ai->Shared->Prop}{s:Shared}{κ:di}{it:Array Keyed}{lt:Nat->Nat->Bool}{n:Nat}
structure SR (κ:di) (it:Array Keyed) (pend:Array (Nat×Nat×Nat)) (p:Array Nat) (st:SortSt):Prop where
 k:kindOf st=κ
 a:fO st=p.map (aI it)
 p:cK st=pend
 f:eS st=none
structure PR (n lo:Nat) (p0 p:Array Nat):Prop where
 pm:p.Perm p0
 lt:∀i,p.getD i 0<n
 eq:∀i,i<lo->p.getD i 0=p0.getD i 0
noncomputable def Seg (lt:Nat->Nat->Bool) (p:Array Nat) (lo hi:Nat):Prop:=∀i j,lo<=i->i<j->j<hi->LE lt (p.getD i 0) (p.getD j 0)
noncomputable def yU (lt:Nat->Nat->Bool) (p:Array Nat) (lo hi:Nat):Prop:=∀i j,lo<=i->i<j->j<hi->LE lt (p.getD j 0) (p.getD i 0)
theorem PR.size {lo:Nat}{p:Array Nat}(h:PR n lo j p):p.size=j.size:=h.pm.size_eq
theorem gQ (hc:Ans prog w A s κ it lt n) {p:Array Nat}{i j:Nat}(hp:∀i,p.getD i 0<n) (hi:i<p.size) (hj:j<p.size) {st:SortSt}(S:SR κ it pend p st) {Q:Option Bool->SortSt->Prop}(h:Q (some (lt (p.getD i 0) (p.getD j 0))) st):wpS (ay prog w) A E s (An i j) Q st:=by
 rw [ltAt'_eq]
 refine aA (fP ?_)
 show wpS _ _ _ _ (do let x <- cT (fO st) i;let y <- cT (fO st) j;lt' x y) Q st
 rw [S.a]
 exact aA (jJ hi (aA (jJ hj (kR hc (hp _) (hp _) S.k h))))
theorem zt {p:Array Nat}{i j:Nat}(G:j<=p.size) (k:Nat):(iz p i j).getD k 0=if i<=k/\k<j then p.getD (i+j-1-k) 0 else p.getD k 0:=by
 rw [av]
 unfold iz
 rw [px G k]
 split
 ·rw [<- av]
 ·rw [<- av]
theorem kh {i j:Nat}{st:SortSt}(S:SR κ it I p st) {Q:Unit->SortSt->Prop}(h:∀G,SR κ it I (iz p i j) G->Q () G):wpS (ay prog w) A E s (fF i j) Q st:=by
 rw [reverseSlice'_eq]
 refine dm (h _ ⟨S.k,?_,S.p,S.f⟩)
 show mirror (fO st) i j ((j-i) / 2)=_
 rw [S.a]
 exact tZ (aI it) (λk=>i+k) (λk=>j-1-k) _ p
theorem PR.rev {lo i j:Nat}{p:Array Nat}(h:PR n lo I p) (hi:lo<=i) (G:j<=p.size):PR n lo I (iz p i j):=by
 refine ⟨(mirror_perm _ _ _ _).trans h.pm,λk=>?_,λk a=>?_⟩
 ·rw [zt G]
  split
  ·exact h.lt _
  ·exact h.lt _
 ·rw [zt G,if_neg ∅]
  exact h.eq k a
theorem Seg.rev {lo j:Nat}{p:Array Nat}(h:Seg lt p lo j) (G:j<=p.size):yU lt (iz p lo j) lo j:=λa b h1 h2 c=>by
 rw [zt G,zt G,if_pos ∅,if_pos ∅]
 exact h _ _ ∅ ∅ ∅
theorem yU.rev {lo j:Nat}{p:Array Nat}(h:yU lt p lo j) (G:j<=p.size):Seg lt (iz p lo j) lo j:=λa b h1 h2 c=>by
 rw [zt G,zt G,if_pos ∅,if_pos ∅]
 exact h _ _ ∅ ∅ ∅
theorem yU.revEq {lo i j:Nat}{p:Array Nat}(h:yU lt p lo j) (hi:lo<=i) (G:j<=p.size) (I:∀a b,i<=a->a<j->i<=b->b<j->LE lt (p.getD a 0) (p.getD b 0)):yU lt (iz p i j) lo j:=λa b h1 h2 c=>by
 rw [zt G,zt G]
 by_cases e:i<=a
 ·rw [if_pos ∅,if_pos ∅]
  exact I _ _ ∅ ∅ ∅ ∅
 ·rw [if_neg (show ¬(i<=a/\a<j) by omega)]
  by_cases d:i<=b
  ·rw [if_pos ∅]
   exact h _ _ h1 ∅ ∅
  ·rw [if_neg ∅]
   exact h _ _ h1 h2 c
noncomputable def Yb (lo nrem n0:Nat):StateT SortSt Sem (Option (Option Nat)×Nat):=mU [n0:nrem] (none,n0) λ_ c=>do
 let __x <- An (lo+c.2) (lo+c.2-1)
 match __x with
 | some smaller=>if smaller then pure (.done (none,c.2)) else pure (.yield (none,c.2+1))
 | _=>pure (.done (some none,c.2))
theorem Xl (hc:Ans prog w A s κ it lt n) (T:Tot lt) {lo G U:Nat}{p:Array Nat}(hp:∀i,p.getD i 0<n) (hn:lo+G<=p.size) (h1:1<=U) (h2:U<=G) (hs:Seg lt p lo (lo+U)) {st:SortSt}(S:SR κ it Y p st) {Q:Option (Option Nat)×Nat->SortSt->Prop}
  (h:∀m,U<=m->m<=G->Seg lt p lo (lo+m)->(m<G->lt (p.getD (lo+m) 0) (p.getD (lo+m-1) 0)=true)->Q (none,m) st):wpS (ay prog w) A E s (Yb lo G U) Q st:=by
 unfold Yb
 refine c9 (I:=λx c a=>a=st/\U<=x/\x<=G/\c=(none,x)/\Seg lt p lo (lo+x)) ?step ?fin ⟨rfl,ak _,h2,rfl,hs⟩
 case fin =>
  rintro c a ⟨rfl,f,d,rfl,b⟩
  exact h _ f d b λz=>absurd z ∅
 case step =>
  rintro x c a r q ⟨rfl,f,d,rfl,b⟩
  dsimp only
  refine aA (gQ hc hp ∅ ∅ S ?_)
  dsimp only
  cases e:lt (p.getD (lo+x) 0) (p.getD (lo+x-1) 0) with
  | true =>
   rw [if_pos rfl]
   exact aO (h x f d b λ_=>e)
  | false =>
   rw [if_neg aq]
   refine aO ⟨rfl,∅,∅,rfl,λi j g l o=>?_⟩
   by_cases z:j<lo+x
   ·exact b i j g l z
   ·rw [show j=lo+x by omega]
    by_cases k:i=lo+x-1
    ·rw [k];exact e
    ·exact T.tr _ _ _ (b i (lo+x-1) g ∅ ∅) e
noncomputable def Y3 (lo nrem n0:Nat):StateT SortSt Sem (Option (Option Nat)×Nat×Nat):=mU [n0:nrem] (none,n0,0) λ_ c=>do
 let __x <- An (lo+c.2.1) (lo+c.2.1-1)
 match __x with
 | some smaller =>
  if smaller then
   if c.2.2 > 0 then do
    fF (lo+c.2.1-(c.2.2+1)) (lo+c.2.1)
    pure (.yield (none,c.2.1+1,0))
   else pure (.yield (none,c.2.1+1,0))
  else do
   let __x <- An (lo+c.2.1-1) (lo+c.2.1)
   match __x with
   | some larger=>if larger then pure (.done (none,c.2.1,c.2.2)) else pure (.yield (none,c.2.1+1,c.2.2+1))
   | _=>pure (.done (some none,c.2.1,c.2.2))
 | _=>pure (.done (some none,c.2.1,c.2.2))
noncomputable def wW (lo nrem m:Nat):StateT SortSt Sem (Option Nat):=do
 fF lo (lo+m)
 let c <- Yb lo nrem m
 match c.1 with
 | some r=>pure r
 | none=>pure (some c.2)
noncomputable def JD (lo nrem m:Nat):StateT SortSt Sem (Option Nat):=do
 rule "list.sort.descending-run"
 let c <- Y3 lo nrem (m+1)
 match c.1 with
 | some r=>pure r
 | none =>
  if c.2.2 > 0 then do
   fF (lo+c.2.1-(c.2.2+1)) (lo+c.2.1)
   wW lo nrem c.2.1
  else wW lo nrem c.2.1
theorem Ql (lo nrem:Nat):countRun' lo nrem=(do
  let c <- Yb lo nrem 1
  match c.1 with
  | some r=>pure r
  | none =>
   if (c.2 == nrem)=true then pure (some c.2)
   else if c.2 > 1 then do
    let __x <- An lo (lo+c.2-1)
    match __x with
    | some rose=>if rose=true then pure (some c.2) else do
      fF lo (lo+c.2)
      JD lo nrem c.2
    | _=>pure none
   else JD lo nrem c.2):=by
 rw [countRun'_eq]
 have ic:∀{α:Type} (c:Prop) [Decidable c] {x y x' y':α},x=x'->y=y'->(if c then x else y)=(if c then x' else y'):=λc _ _ _ _ _ h1 h2=>by rw [h1,h2]
 have bc:∀{α β:Type} (m:StateT SortSt Sem α) {f g:α->StateT SortSt Sem β},(∀a,f a=g a)->(m >>= f)=(m >>= g):=λm f g h=>by rw [show f=g from funext h]
 have tl:∀(m:Nat) (f:Option (Option Nat)×Nat->StateT SortSt Sem (Option Nat)),(∀r k,f (r,k)=(match r with | some r=>pure r | none=>pure (some k)))->(fF lo (lo+m) >>= λ_=>Yb lo nrem m >>= f)=wW lo nrem m:=λm f h=>by
  unfold wW
  refine bc _ λ_=>bc _ λc=>?_
  obtain ⟨r,k⟩:=c
  rw [h]
 have ds:∀(m:Nat) (f:Option (Option Nat)×Nat×Nat->StateT SortSt Sem (Option Nat)),(∀r k q,f (r,k,q)=(match r with | some r=>pure r | none=>if q > 0 then (do fF (lo+k-(q+1)) (lo+k);wW lo nrem k) else wW lo nrem k))->((liftM (rule "list.sort.descending-run"):StateT SortSt Sem Unit) >>= λ_=>Y3 lo nrem (m+1) >>= f)=JD lo nrem m:=λm f h=>by
  unfold JD
  refine bc _ λ_=>bc _ λc=>?_
  obtain ⟨r,k,q⟩:=c
  rw [h]
 refine bc (Yb lo nrem 1) λc=>?_
 obtain ⟨r,m⟩:=c
 cases r with
 | some r=>rfl
 | none =>
  dsimp only
  refine ic _ rfl (ic _ (bc _ λx=>?_) ?_)
  ·cases x with
   | none=>rfl
   | some rose =>
    dsimp only
    refine ic _ rfl (bc _ λ_=>?_)
    refine ds m _ λr k q=>?_
    cases r with
    | some r=>rfl
    | none =>
     dsimp only
     refine ic _ (bc _ λ_=>tl k _ λr k=>?_) (tl k _ λr k=>?_)
     ·cases r <;> rfl
     ·cases r <;> rfl
  ·refine ds m _ λr k q=>?_
   cases r with
   | some r=>rfl
   | none =>
    dsimp only
    refine ic _ (bc _ λ_=>tl k _ λr k=>?_) (tl k _ λr k=>?_)
    ·cases r <;> rfl
    ·cases r <;> rfl
end
section
variable {prog:Program}{w:bx}{A:bC}{E:ai->Shared->Prop}{s:Shared}{κ:di}{it:Array Keyed}{lt:Nat->Nat->Bool}{n:Nat}
theorem yU.snoc (T:Tot lt) {p:Array Nat}{lo hi:Nat}(h:yU lt p lo hi) (h1:lo<hi) (e:LE lt (p.getD hi 0) (p.getD (hi-1) 0)):yU lt p lo (hi+1):=λi j a c d=>by
 by_cases z:j<hi
 ·exact h i j a c z
 ·rw [show j=hi by omega]
  by_cases b:i=hi-1
  ·rw [b];exact e
  ·exact T.tr _ _ _ e (h i (hi-1) a ∅ ∅)
noncomputable def ZD (lt:Nat->Nat->Bool) (p:Array Nat) (i j:Nat):Prop:=∀a b,i<=a->a<j->i<=b->b<j->LE lt (p.getD a 0) (p.getD b 0)
theorem Tot.rf (T:Tot lt) (i:Nat):LE lt i i:=by
 cases e:lt i i with
 | false=>exact e
 | true=>exact T.as i i e
theorem ZD.one (T:Tot lt) (p:Array Nat) {i j:Nat}(h:j<=i+1):ZD lt p i j:=λa b h1 h2 d c=>by
 rw [show a=b by omega]
 exact T.rf _
theorem ZD.snoc (T:Tot lt) {p:Array Nat}{i j:Nat}(h:ZD lt p i j) (U:i<j) (I:LE lt (p.getD (j-1) 0) (p.getD j 0)) (G:LE lt (p.getD j 0) (p.getD (j-1) 0)):ZD lt p i (j+1):=λa b h1 h2 e f=>by
 by_cases d:a<j
 ·by_cases c:b<j
  ·exact h a b h1 d e c
  ·rw [show b=j by omega]
   exact T.tr _ _ _ (h a (j-1) h1 d ∅ ∅) I
 ·rw [show a=j by omega]
  by_cases c:b<j
  ·exact T.tr _ _ _ G (h (j-1) b ∅ ∅ e c)
  ·rw [show b=j by omega]
   exact T.rf _
structure DI (lt:Nat->Nat->Bool) (n lo nrem n0:Nat) (p0 p:Array Nat) (x q:Nat):Prop where
 pr:PR n lo p0 p
 d:yU lt p lo (lo+x)
 l:ZD lt p (lo+x-(q+1)) (lo+x)
 q:q+1<=x
 a:n0<=x
 b:x<=nrem
theorem YS (hc:Ans prog w A s κ it lt n) (T:Tot lt) {lo G Y:Nat}{p:Array Nat}(hp:∀i,p.getD i 0<n) (hn:lo+G<=p.size) (h1:1<=Y) (h2:Y<=G) (hs:yU lt p lo (lo+Y)) {st:SortSt}(S:SR κ it ab p st) {Q:Option (Option Nat)×Nat×Nat->SortSt->Prop}
  (h:∀m q j U,DI lt n lo G Y p j m q->SR κ it ab j U->Q (none,m,q) U):wpS (ay prog w) A E s (Y3 lo G Y) Q st:=by
 unfold Y3
 refine c9 (I:=λx c U=>∃j q,SR κ it ab j U/\DI lt n lo G Y p j x q/\c=(none,x,q)) ?step ?fin ⟨p,0,S,⟨⟨.rfl,hp,λ_ _=>rfl⟩,hs,.one T _ ∅,h1,ak _,h2⟩,rfl⟩
 case fin =>
  rintro c U ⟨j,q,a,D,rfl⟩
  exact h _ _ j _ D a
 case step =>
  rintro x c U t r ⟨j,q,a,D,rfl⟩
  have k:=D.pr.size
  have o:=D.q
  dsimp only
  refine aA (gQ hc D.pr.lt ∅ ∅ a ?_)
  dsimp only
  cases e:lt (j.getD (lo+x) 0) (j.getD (lo+x-1) 0) with
  | true =>
   rw [if_pos rfl]
   by_cases z:q > 0
   ·rw [if_pos z]
    refine aA (kh a λg f=>aO ⟨_,0,f,⟨D.pr.rev ∅ ∅,?_,.one T _ ∅,∅,∅,∅⟩,rfl⟩)
    refine yU.snoc (hi:=lo+x) T (yU.revEq D.d ∅ ∅ D.l) ∅ ?_
    rw [zt ∅,zt ∅,if_neg ∅,if_pos ∅]
    exact T.tr _ _ _ (T.as _ _ e) (D.l _ _ ∅ ∅ ∅ ∅)
   ·rw [if_neg z]
    exact aO ⟨_,0,a,⟨D.pr,.snoc (hi:=lo+x) T D.d ∅ (T.as _ _ e),.one T _ ∅,∅,∅,∅⟩,rfl⟩
  | false =>
   rw [if_neg aq]
   refine aA (gQ hc D.pr.lt ∅ ∅ a ?_)
   dsimp only
   cases b:lt (j.getD (lo+x-1) 0) (j.getD (lo+x) 0) with
   | true =>
    rw [if_pos rfl]
    exact aO (h _ _ j _ D a)
   | false =>
    rw [if_neg aq]
    refine aO ⟨_,q+1,a,⟨D.pr,.snoc (hi:=lo+x) T D.d ∅ b,?_,∅,∅,∅⟩,rfl⟩
    have:=ZD.snoc T D.l ∅ e b
    rw [show lo+(x+1)-(q+1+1)=lo+x-(q+1) by omega]
    exact this
theorem JB (hc:Ans prog w A s κ it lt n) (T:Tot lt) {lo G m:Nat}(P:PR n lo p0 p) (hn:lo+G<=p.size) (h1:1<=m) (h2:m<=G) (hs:yU lt p lo (lo+m)) {st:SortSt}(S:SR κ it U p st) {Q:Option Nat->SortSt->Prop}
  (h:∀k Y I,1<=k->k<=G->PR n lo p0 Y->Seg lt Y lo (lo+k)->SR κ it U Y I->Q (some k) I):wpS (ay prog w) A E s (wW lo G m) Q st:=by
 unfold wW
 refine aA (kh S λe b=>?_)
 have a:=P.rev (i:=lo) (j:=lo+m) (ak _) ∅
 have g:=P.size
 have f:=a.size
 refine aA (Xl hc T a.lt ∅ h1 h2 (hs.rev ∅) b λk l d c _=>?_)
 dsimp only
 exact aO (h k _ _ ∅ d a c b)
theorem Jt (Y:Ans prog w A s κ it lt n) (T:Tot lt) {lo G m:Nat}(P:PR n lo p0 p) (hn:lo+G<=p.size) (h2:m+1<=G) (hs:yU lt p lo (lo+(m+1))) {st:SortSt}(S:SR κ it U p st) {Q:Option Nat->SortSt->Prop}
  (h:∀k p' I,1<=k->k<=G->PR n lo p0 p'->Seg lt p' lo (lo+k)->SR κ it U p' I->Q (some k) I):wpS (ay prog w) A E s (JD lo G m) Q st:=by
 unfold JD
 refine aA ↥120
 refine aA (YS Y T P.lt hn ∅ h2 hs S λk q p' I D f=>?_)
 have c:PR n lo p0 p':=⟨D.pr.pm.trans P.pm,D.pr.lt,λi hi=>(D.pr.eq i hi).trans (P.eq i hi)⟩
 have t:=D.pr.size
 have u:=D.q
 have x:=D.a
 have v:=D.b
 dsimp only
 by_cases z:q > 0
 ·rw [if_pos z]
  refine aA (kh f λr o=>?_)
  have g:=c.rev (i:=lo+k-(q+1)) (j:=lo+k) ∅ ∅
  have e:=c.size
  have y:=g.size
  exact JB Y T g ∅ ∅ ∅ (yU.revEq D.d ∅ ∅ D.l) o h
 ·rw [if_neg z]
  exact JB Y T c ∅ ∅ ∅ D.d f h
theorem vN (I:Ans prog w A s κ it lt n) (T:Tot lt) {lo G:Nat}{p:Array Nat}(hp:∀i,p.getD i 0<n) (hn:lo+G<=p.size) (h1:1<=G) {st:SortSt}(S:SR κ it Y p st) {Q:Option Nat->SortSt->Prop}
  (h:∀k p' U,1<=k->k<=G->PR n lo p p'->Seg lt p' lo (lo+k)->SR κ it Y p' U->Q (some k) U):wpS (ay prog w) A E s (countRun' lo G) Q st:=by
 rw [Ql]
 have P:PR n lo p p:=⟨.rfl,hp,λ_ _=>rfl⟩
 refine aA (Xl I T hp hn (ak _) h1 (λi j a b c=>absurd c ∅) S λm o l d r=>?_)
 dsimp only
 by_cases z:m=G
 ·rw [if_pos (by rw [z];exact beq_self_eq_true G)]
  exact aO (h m p _ o l P d S)
 ·rw [if_neg (by intro c;exact z (eq_of_beq c))]
  have g:=r ∅
  by_cases f:m > 1
  ·rw [if_pos f]
   refine aA (gQ I hp ∅ ∅ S ?_)
   dsimp only
   cases e:lt (p.getD lo 0) (p.getD (lo+m-1) 0) with
   | true =>
    rw [if_pos rfl]
    exact aO (h m p _ o l P d S)
   | false =>
    rw [if_neg aq]
    refine aA (kh S λu t=>?_)
    have q:=P.rev (i:=lo) (j:=lo+m) (ak _) ∅
    have v:=q.size
    refine Jt I T q ∅ ∅ (yU.snoc (hi:=lo+m) T (d.rev ∅) ∅ ?_) t h
    rw [zt ∅,zt ∅,if_neg ∅,if_pos ∅]
    rw [show lo+(lo+m)-1-(lo+m-1)=lo by omega]
    exact T.tr _ _ _ (T.as _ _ g) e
  ·rw [if_neg f]
   refine Jt I T P hn ∅ (yU.snoc (hi:=lo+m) T (λi j a b c=>absurd c ∅) ∅ (T.as _ _ g)) S h
end
section
variable {prog:Program}{w:bx}{A:bC}{E:ai->Shared->Prop}{s:Shared}{κ:di}{it:Array Keyed}{lt:Nat->Nat->Bool}{n:Nat}
theorem Qo {p:Array Nat}{j d:Nat}(G:j<p.size) (I:d<=j) (k:Nat):(tE p j d).getD k 0=if k=j-d then p.getD j 0 else if j-d<k/\k<=j then p.getD (k-1) 0 else p.getD k 0:=by
 rw [av,sN G d I k]
 by_cases z:k=j-d
 ·rw [if_pos z,if_pos z,<- av]
 ·rw [if_neg z,if_neg z]
  by_cases y:j-d<k/\k<=j
  ·rw [if_pos y,if_pos y,<- av]
  ·rw [if_neg y,if_neg y,<- av]
theorem PR.bub {lo j d:Nat}{p:Array Nat}(h:PR n lo I p) (G:j<p.size) (U:lo+d<=j):PR n lo I (tE p j d):=by
 refine ⟨(bubble_perm _ _ _).trans h.pm,λk=>?_,λk a=>?_⟩
 ·rw [Qo G ∅]
  by_cases z:k=j-d
  ·rw [if_pos z];exact h.lt _
  ·rw [if_neg z]
   by_cases y:j-d<k/\k<=j
   ·rw [if_pos y];exact h.lt _
   ·rw [if_neg y];exact h.lt _
 ·rw [Qo G ∅,if_neg ∅,if_neg ∅]
  exact h.eq k a
theorem Ve {i j:Nat}{st:SortSt}(S:SR κ it I p st) {Q:Unit->SortSt->Prop}(h:∀G,SR κ it I (tE p i (i-j)) G->Q () G):wpS (ay prog w) A E s (moveDown' i j) Q st:=by
 rw [moveDown'_eq]
 refine dm (h _ ⟨S.k,?_,S.p,S.f⟩)
 show tE (fO st) i (i-j)=_
 rw [S.a]
 exact tZ (aI it) (λk=>i-k) (λk=>i-k-1) _ p
theorem yP (hc:Ans prog w A s κ it lt n) (T:Tot lt) {lo m ok:Nat}(P:PR n lo p0 p) (hn:lo+m<=p.size) (ab:ok<=m) (hs:Seg lt p lo (lo+ok)) {st:SortSt}(S:SR κ it Y p st) {Q:Bool->SortSt->Prop}
  (h:∀G U,PR n lo p0 G->Seg lt G lo (lo+m)->SR κ it Y G U->Q true U):wpS (ay prog w) A E s (binarySort' lo m ok) Q st:=by
 rw [binarySort'_eq]
 refine aA (cA (c9 (I:=λk c U=>c=(none,())/\∃G,PR n lo p0 G/\SR κ it Y G U/\Seg lt G lo (lo+min k m))
  (Q:=λc U=>c=(none,())/\∃G,PR n lo p0 G/\SR κ it Y G U/\Seg lt G lo (lo+m)) ?step ?fin ?init) ?post)
 case post =>
  rintro c U ⟨rfl,G,f,o,s'⟩
  exact aO (h G U f s' o)
 case init =>
  refine ⟨rfl,p,P,S,λi j u B H=>?_⟩
  by_cases h1:ok=0
  ·omega
  ·exact hs i j u B ∅
 case fin =>
  rintro c U ⟨hc,G,f,o,s'⟩
  refine ⟨hc,G,f,o,?_⟩
  rwa [show min (max (max ok 1) m) m=m by omega] at s'
 case step =>
  rintro k c U R O ⟨rfl,G,f,o,s'⟩
  rw [show min k m=k by omega] at s'
  have Z:=f.size
  have L:=P.size
  have t:lo+k<G.size:=∅
  refine aA (cA (c9 (I:=λx c a=>a=U/\∃l r,c=(none,l,r)/\l<=r/\r<=k/\r-l<=k-x /\
    (∀i,i<l->LE lt (G.getD (lo+i) 0) (G.getD (lo+k) 0))/\(∀i,r<=i->i<k->LE lt (G.getD (lo+k) 0) (G.getD (lo+i) 0)))
   (Q:=λc a=>a=U/\∃l r,c=(none,l,r)/\l<=k /\
    (∀i,i<l->LE lt (G.getD (lo+i) 0) (G.getD (lo+k) 0))/\(∀i,l<=i->i<k->LE lt (G.getD (lo+k) 0) (G.getD (lo+i) 0))) ?istep ?ifin ?iinit) ?ipost)
  case iinit=>exact ⟨rfl,0,k,rfl,∅,∅,∅,λi hi=>∅,λi h1 h2=>∅⟩
  case ifin =>
   rintro c a ⟨rfl,l,r,rfl,C,q,D,b,d⟩
   have:l=r:=∅
   subst this
   exact ⟨rfl,l,l,rfl,q,b,d⟩
  case istep =>
   rintro x c a _ M ⟨rfl,l,r,rfl,C,q,D,b,d⟩
   dsimp only
   by_cases v:l>=r
   ·rw [if_pos v]
    have:l=r:=∅
    subst this
    exact aO ⟨rfl,l,l,rfl,q,b,d⟩
   ·rw [if_neg v]
    refine aA (gQ hc f.lt t ∅ o ?_)
    dsimp only
    cases e:lt (G.getD (lo+k) 0) (G.getD (lo+(l+r) / 2) 0) with
    | true =>
     rw [if_pos rfl]
     refine aO ⟨rfl,l,(l+r) / 2,rfl,∅,∅,∅,b,λi h1 h2=>?_⟩
     by_cases z:i=(l+r) / 2
     ·rw [z];exact T.as _ _ e
     ·exact T.tr _ _ _ (T.as _ _ e) (s' _ _ ∅ ∅ ∅)
    | false =>
     rw [if_neg aq]
     refine aO ⟨rfl,(l+r) / 2+1,r,rfl,∅,∅,∅,λi h1=>?_,d⟩
     by_cases z:i=(l+r) / 2
     ·rw [z];exact e
     ·exact T.tr _ _ _ (s' _ _ ∅ ∅ ∅) e
  case ipost =>
   rintro c a ⟨rfl,l,r,rfl,N,b,d⟩
   refine aA (Ve o λK J=>aO ⟨rfl,_,f.bub t ∅,J,?_⟩)
   rw [show min (k+1) m=k+1 by omega]
   intro i j u B H
   rw [Qo t ∅,Qo t ∅]
   dsimp only
   by_cases X:i<lo+l
   ·rw [if_neg (show ¬i=lo+k-(lo+k-(lo+l)) by omega),if_neg (show ¬(lo+k-(lo+k-(lo+l))<i/\i<=lo+k) by omega)]
    have g:=b (i-lo) ∅
    rw [show lo+(i-lo)=i by omega] at g
    by_cases z:j=lo+k-(lo+k-(lo+l))
    ·rw [if_pos z];exact g
    ·rw [if_neg z]
     by_cases y:lo+k-(lo+k-(lo+l))<j/\j<=lo+k
     ·rw [if_pos y];exact s' _ _ u ∅ ∅
     ·rw [if_neg y];exact s' _ _ u B ∅
   ·by_cases V:i=lo+l
    ·rw [if_pos (show i=lo+k-(lo+k-(lo+l)) by omega),if_neg (show ¬j=lo+k-(lo+k-(lo+l)) by omega),if_pos ∅]
     have g:=d (j-1-lo) ∅ ∅
     rw [show lo+(j-1-lo)=j-1 by omega] at g
     exact g
    ·rw [if_neg (show ¬i=lo+k-(lo+k-(lo+l)) by omega),if_pos (show lo+k-(lo+k-(lo+l))<i/\i<=lo+k by omega),if_neg (show ¬j=lo+k-(lo+k-(lo+l)) by omega),if_pos ∅]
     exact s' _ _ ∅ ∅ ∅
end
theorem XC (i:Nat):mergeAt' i=(do
 let s <- get
 let (some (sa,na,power),some (sb,nb,_)):=((cK s)[i]?,(cK s)[i+1]?) | mx "internal:list.sort.pending"
 set (me s (((cK s).setIfInBounds i (sa,na+nb,power)).eraseIdxIfInBounds (i+1)))
 let some k <- xm false (<- cT (fO s) sb) (fO s) sa na 0 | return false
 let (sa,na):=(sa+k,na-k)
 if na == 0 then return true
 let some nb <- xm true (<- cT (fO s) (sa+na-1)) (fO s) sb nb (nb-1) | return false
 if nb == 0 then return true
 let x:=(fO s).extract sa sb
 let y:=(fO s).extract sb (sb+nb)
 let merged <- if na<=nb then uv x y else uC x y
 modify λs=>setArr s (merged.toList.zipIdx.foldl (λa (p,j)=>a.setIfInBounds (sa+j) p) (fO s))
 return (eS (<- get)).isNone):=rfl
theorem ZY {α:Type}(base:Nat):∀(zs G I j:List α) (s:Nat),I.length=zs.length->G.length=base+s->(zs.zipIdx s).foldl (λ(a:Array α) (x:α×Nat)=>a.setIfInBounds (base+x.2) x.1) (G++(I++j)).toArray=(G++(zs++j)).toArray
 | [],G,[],j,s,_,_=>rfl
 | z::zs,G,d::I,j,s,h1,h2=>by
  rw [mW,List.foldl_cons]
  have e:(G++(d::I++j)).toArray.setIfInBounds (base+s) z=((G++[z])++(I++j)).toArray:=by
   rw [List.setIfInBounds_toArray,<- h2,List.set_append_right _ _ (ak _),Nat.sub_self,bR]
   rfl
  dsimp only
  rw [e,ZY base zs (G++[z]) I j (s+1) (Nat.succ.inj h1) (by rw [ar,h2];rfl),bR]
  rfl
section
variable {lt:Nat->Nat->Bool}{n:Nat}
theorem Seg.pw {p:Array Nat}{a b i j:Nat}(h:Seg lt p a b) (I:a<=i) (G:j<=b):(p.extract i j).toList.Pairwise (LE lt):=by
 rw [mf]
 intro x y d c e
 rw [aG,ft] at d c
 have:=h (i+x) (i+y) ∅ ∅ ∅
 rw [bY,bY,fK,fK]
 rw [av,aZ ∅,av,aZ ∅] at this
 exact this
theorem Vf {p:Array Nat}(j:∀i,p.getD i 0<n) (a b i:Nat):(p.extract a b).getD i 0<n:=by
 by_cases z:i<(p.extract a b).size
 ·rw [av,aZ z,fK]
  have:=j (a+i)
  rw [ft] at z
  rw [av,aZ ∅] at this
  exact this
 ·rw [av,iJ ∅]
  have:=j p.size
  rw [av,iJ (ak _)] at this
  exact this
theorem V8 {p:Array Nat}{a b i:Nat}(h:a+i<b) (j:b<=p.size):(p.extract a b).getD i 0=p.getD (a+i) 0:=by
 rw [av,aZ (by rw [ft];omega),fK,av,aZ ∅]
theorem G7 {p:Array Nat}(T:Tot lt) (h:p.toList.Pairwise (LE lt)):Seg lt p 0 p.size:=λ_ _ _ h2 a=>yc T h h2 a
theorem VH (T:Tot lt) {base m key:Nat}(G:Seg lt p base (base+m)):∀i j,i<=j->j<m->byd lt true key p (base+j)=true->byd lt true key p (base+i)=true:=λi j a b h=>by
 unfold byd at h ⊢
 rw [if_pos rfl] at h ⊢
 by_cases z:i=j
 ·rw [z];exact h
 ·cases e:lt ↥129 key with
  | true=>rfl
  | false =>
   have:LE lt key (p.getD (base+j) 0):=T.tr _ _ _ e (G _ _ ∅ ∅ ∅)
   unfold LE at this
   rw [this] at h
   cases h
theorem YN (T:Tot lt) {base m key:Nat}(G:Seg lt p base (base+m)):∀i j,i<=j->j<m->byd lt false key p (base+j)=true->byd lt false key p (base+i)=true:=λi j a b h=>by
 have h:=vx h
 by_cases z:i=j
 ·rw [z]
  unfold byd
  rw [if_neg aq,show lt key (p.getD (base+j) 0)=false from h];rfl
 ·have:LE lt ↥129 key:=T.tr _ _ _ (G _ _ ∅ ∅ ∅) h
  unfold byd
  rw [if_neg aq,show lt key ↥129=false from this];rfl
theorem Ym (T:Tot lt) {p G:Array Nat}{k m j:Nat}(hm:m<p.size) (hk:k<m) (hj:1<=j) (ab:m+j<=p.size) (s1:Seg lt p 0 m) (U:Seg lt p m p.size) (Y:∀i,i<k->LE lt (p.getD i 0) (p.getD m 0)) (b2:∀i,m+j<=i->i<p.size->LE lt (p.getD (m-1) 0) (p.getD i 0))
  (I:G.toList.Perm ((p.extract k m).toList++ (↥130).toList)) (hs:G.toList.Pairwise (LE lt)) :
  (p.toList.take k++(G.toList++p.toList.drop (m+j))).Perm p.toList/\(p.toList.take k++(G.toList++p.toList.drop (m+j))).Pairwise (LE lt):=by
 have s:=(zk p k (m-k)).1
 rw [show k+(m-k)=m by omega] at s
 have w:=(zk p m j).1
 refine ⟨?_,?_⟩
 ·conv=>rhs;rw [<- iQ k p.toList,s,w]
  refine oo _ ?_
  rw [<- bR]
  exact I.append_right _
 ·have n:∀x∈(p.extract k m).toList,∃a,k<=a/\a<m/\x=p.getD a 0:=λx c=>by
   rw [show m=k+(m-k) by omega] at c
   obtain ⟨a,f,h,r⟩:=vG c
   exact ⟨k+a,∅,∅,r⟩
  have l:∀x∈ (↥130).toList,∃a,m<=a/\a<m+j/\x=p.getD a 0:=λx c=>by
   obtain ⟨a,f,h,r⟩:=vG c
   exact ⟨m+a,∅,∅,r⟩
  have g:∀a b,a<=b->b<m->LE lt (p.getD a 0) (p.getD b 0):=λa b h1 h2=>by
   by_cases z:a=b
   ·rw [z];exact T.rf _
   ·exact s1 a b (aB _) ∅ h2
  have d:∀a b,m<=a->a<=b->b<p.size->LE lt (p.getD a 0) (p.getD b 0):=λa b v h1 h2=>by
   by_cases z:a=b
   ·rw [z];exact T.rf _
   ·exact U a b v ∅ h2
  have u:(p.toList.take k).Pairwise (LE lt):=by
   have:=s1.pw (i:=0) (j:=k) (aB _) ∅
   rw [cU] at this
   exact this
  have t:(p.toList.drop (m+j)).Pairwise (LE lt):=by
   have:=U.pw (i:=m+j) (j:=p.size) ∅ (ak _)
   have e:=(zk p (m+j) (p.size-(m+j))).1
   rw [show m+j+(p.size-(m+j))=p.size by omega,fj (i:=p.size) (by rw [aG];exact ak _),bj] at e
   rw [e];exact this
  refine List.pairwise_append.mpr ⟨u,List.pairwise_append.mpr ⟨hs,t,λx c y o=>?_⟩,λx c y o=>?_⟩
  ·obtain ⟨b,h1,h2,rfl⟩:=xS o
   rcases List.mem_append.mp (I.mem_iff.mp c) with q | q
   ·obtain ⟨a,f,h,rfl⟩:=n x q
    exact T.tr _ _ _ (g a (m-1) ∅ ∅) (b2 b h1 h2)
   ·obtain ⟨a,f,h,rfl⟩:=l x q
    exact d a b f ∅ h2
  ·obtain ⟨a,f,h,rfl⟩:=ym c
   rcases List.mem_append.mp o with q | q
   ·rcases List.mem_append.mp (I.mem_iff.mp q) with q | q
    ·obtain ⟨b,h1,h2,rfl⟩:=n y q
     exact g a b ∅ h2
    ·obtain ⟨b,h1,h2,rfl⟩:=l y q
     exact T.tr _ _ _ (Y a f) (d m b (ak _) h1 ∅)
   ·obtain ⟨b,h1,h2,rfl⟩:=xS q
    exact T.tr _ _ _ (Y a f) (d m b (ak _) ∅ h2)
end
section
variable {prog:Program}{w:bx}{A:bC}{E:ai->Shared->Prop}{s:Shared}{κ:di}{it:Array Keyed}{lt:Nat->Nat->Bool}{n:Nat}
theorem Wy (x y z:Nat×Nat×Nat):((#[x,y]:Array (Nat×Nat×Nat)).setIfInBounds 0 z).eraseIdxIfInBounds (0+1) = #[z]:=by
 show (#[z,y]:Array (Nat×Nat×Nat)).eraseIdxIfInBounds 1=_
 rw [List.eraseIdxIfInBounds_toArray]
 rfl
theorem Ur {j:SortSt}{Q:PUnit->SortSt->Prop}{st:SortSt}(h:Q ⟨⟩ j):wpS (ay prog w) A E s (set j:StateT SortSt Sem PUnit) Q st:=dm (f:=λ_=>j) h
theorem XM (hc:Ans prog w A s κ it lt n) (T:Tot lt) {pw m:Nat}{p:Array Nat}(hp:∀i,p.getD i 0<n) (h1:1<=m) (h2:m<p.size) (s1:Seg lt p 0 m) (s2:Seg lt p m p.size) {st:SortSt}(S:SR κ it #[(0,m,pw),(m,p.size-m,0)] p st) {Q:Bool->SortSt->Prop}
  (h:∀p' st',p'.toList.Perm p.toList->Seg lt p' 0 p.size->SR κ it #[(0,p.size,pw)] p' st'->Q true st'):wpS (ay prog w) A E s (mergeAt' 0) Q st:=by
 rw [XC]
 refine aA (fP ?_)
 dsimp only
 rw [S.p,S.a]
 rw [show (↥137)[0]? = some (0,m,pw) from rfl,show (↥137)[0+1]? = some (m,p.size-m,0) from rfl]
 dsimp only
 rw [show ((↥137).setIfInBounds 0 (0,m+(p.size-m),pw)).eraseIdxIfInBounds (0+1) = #[(0,m+(p.size-m),pw)] from Wy _ _ _]
 refine aA (Ur ?_)
 rw [show m+(p.size-m)=p.size by omega]
 generalize hst:me st #[(0,p.size,pw)]=st1
 have S1:SR κ it #[(0,p.size,pw)] p st1:=by
  rw [<- hst]
  exact ⟨S.k,S.a,rfl,S.f⟩
 refine aA (jJ h2 ?_)
 refine aA (xW hc (hp m) ∅ hp ∅ (YN T (by rw [dq];exact s1)) S1.k λk k1 k2 k3=>?_)
 dsimp only
 have b1:∀i,i<k->LE lt (p.getD i 0) (p.getD m 0):=λi hi=>by
  have:=vx (k2 i hi)
  rwa [dq] at this
 by_cases z:m-k=0
 ·rw [if_pos (by rw [z];rfl)]
  refine aO (h p _ (iB _) (λi j c1 c2 c3=>?_) S1)
  by_cases zj:j<m
  ·exact s1 i j c1 c2 zj
  ·by_cases zi:m<=i
   ·exact s2 i j zi c2 c3
   ·by_cases zm:j=m
    ·rw [zm];exact b1 i ∅
    ·exact T.tr _ _ _ (b1 i ∅) (s2 m j (ak _) ∅ c3)
 ·rw [if_neg (by intro c;exact z (eq_of_beq c))]
  have e0:0+k+(m-k)-1=m-1:=∅
  rw [e0]
  refine aA (jJ (i:=m-1) ∅ ?_)
  refine aA (xW hc (hp (m-1)) ∅ hp ∅ (VH T (by rw [show m+(p.size-m)=p.size by omega];exact s2)) S1.k λj j1 j2 j3=>?_)
  dsimp only
  have c0:byd lt true (p.getD (m-1) 0) p m=true:=by
   have:=yJ (k3 (m-1) ∅ ∅)
   rw [dq] at this
   unfold byd
   rw [if_pos rfl];exact this
  have hj:1<=j:=by
   apply Nat.pos_of_ne_zero
   intro z0
   have:=j3 0 ∅ ∅
   rw [rR,c0] at this
   cases this
  rw [if_neg (by intro c;exact absurd (eq_of_beq c) ∅)]
  have b2:∀i,m+j<=i->i<p.size->LE lt (p.getD (m-1) 0) (p.getD i 0):=λi i1 i2=>by
   have:=j3 (i-m) ∅ ∅
   rw [show m+(i-m)=i by omega] at this
   unfold byd at this
   rw [if_pos rfl] at this
   exact this
  rw [dq,<- iH,<- iH]
  have D:Two2 lt n (p.extract k m) ↥130:=⟨T,Vf hp _ _,Vf hp _ _,s1.pw (aB _) (ak _),s2.pw (ak _) ∅⟩
  have za:(p.extract k m).size=m-k:=by rw [ft];omega
  have zb: (↥130).size=j:=by rw [ft];omega
  have h0:∀x∈(p.extract k m).toList,LE lt ((↥130).getD 0 0) x:=λx hx=>by
   rw [V8 ∅ ∅,rR]
   rw [show m=k+(m-k) by omega] at hx
   obtain ⟨a,a1,a2,rfl⟩:=vG hx
   have:=yJ (k3 (k+a) ∅ ∅)
   rw [dq] at this
   exact T.as _ _ this
  have hl:∀y∈ (↥130).toList,LE lt y ((p.extract k m).getD ((p.extract k m).size-1) 0):=λy hy=>by
   rw [za,V8 ∅ ∅,show k+(m-k-1)=m-1 by omega]
   obtain ⟨a,a1,a2,rfl⟩:=vG hy
   have:=j2 a a1
   unfold byd at this
   rw [if_pos rfl] at this
   exact T.as _ _ this
  have go:∀o st',MgF lt it (p.extract k m) ↥130 o->StOk st1 st'->wpS (ay prog w) A E s (do
    modify λs=>setArr s (o.toList.zipIdx.foldl (λa (x:Keyed×Nat)=>a.setIfInBounds (k+x.2) x.1) (fO s))
    return (eS (<- get)).isNone) Q st':=λo st' M O=>by
   obtain ⟨po,rfl,po1,po2⟩:=M
   obtain ⟨q1,q2⟩:=Ym T h2 ∅ hj ∅ s1 s2 b1 b2 po1 po2
   refine aA (dm (aA (fP ?_)))
   show wpS _ _ _ _ (pure (eS st').isNone) _ _
   rw [O.f,S1.f]
   have e1: (↥134).toArray.size=p.size:=by
    rw [au,q1.length_eq,aG]
   refine aO (h (↥134).toArray _ q1 ?_ ⟨?_,?_,?_,?_⟩)
   ·have:=G7 (p:=(↥134).toArray) T q2
    rw [e1] at this
    exact this
   ·exact O.k.trans S1.k
   ·show ((po.map (aI it)).toList.zipIdx.foldl (λa (x:Keyed×Nat)=>a.setIfInBounds (k+x.2) x.1) (fO st'))=_
    rw [O.a,S1.a,eR]
    have d1:=(zk p k (m-k)).1
    rw [show k+(m-k)=m by omega] at d1
    have d2:=(zk p m j).1
    have e2:p.map (aI it)=((p.toList.take k).map (aI it)++(((p.extract k m).toList++ (↥130).toList).map (aI it)++(p.toList.drop (m+j)).map (aI it))).toArray:=by
     rw [<- aD,<- aD,bR,<- d2,<- d1,iQ]
     apply Array.toList_inj.mp
     rw [eR]
    rw [e2,ZY k _ _ _ _ 0 (by rw [ag,ag];exact po1.length_eq.symm) (by rw [ag,aY,aG];omega)]
    apply Array.toList_inj.mp
    rw [eR]
    show _=Ai _ (_++(_++_))
    rw [aD,aD]
   ·exact O.p.trans S1.p
   ·exact O.f.trans S1.f
  by_cases le:m-k<=j
  ·rw [if_pos le]
   exact aA (XO hc D ∅ ∅ h0 hl S1.k go)
  ·rw [if_neg le]
   exact aA (Xc hc D ∅ ∅ h0 hl S1.k go)
end
section
variable {prog:Program}{w:bx}{A:bC}{E:ai->Shared->Prop}{s:Shared}{κ:di}{it:Array Keyed}{lt:Nat->Nat->Bool}{n:Nat}
theorem QM {z:Nat}(h1:1<=z) (h2:z<128):z<=2*rS z z 0:=by
 obtain ⟨f,d⟩:∃f,z=f+1:=⟨z-1,∅⟩
 have e:rS (f+1) z 0=if z<64 then z+0 else rS f (z / 2) (max 0 (z % 2)):=rfl
 rw [<- d] at e
 rw [e]
 by_cases g:z<64
 ·rw [if_pos g];omega
 ·rw [if_neg g]
  obtain ⟨a,b⟩:∃a,f=a+1:=⟨f-1,∅⟩
  have c:rS (a+1) (z / 2) (max 0 (z % 2))=if z / 2<64 then z / 2+max 0 (z % 2) else rS a (z / 2 / 2) (max (max 0 (z % 2)) (z / 2 % 2)):=rfl
  rw [<- b] at c
  rw [c,if_pos ∅]
  omega
inductive Run1 (lt:Nat->Nat->Bool) (κ:di) (it:Array Keyed) (n:Nat) (p:Array Nat) (m:Nat) (st:SortSt):Prop
 | mk (q:Array Nat):PR n 0 p q->SR κ it #[(0,m,0)] q st->Seg lt q 0 m->1<=m->m<=p.size->Run1 lt κ it n p m st
inductive Run2 (lt:Nat->Nat->Bool) (κ:di) (it:Array Keyed) (n:Nat) (p:Array Nat) (st:SortSt):Prop
 | mk (q:Array Nat) (m pw:Nat):PR n 0 p q->SR κ it #[(0,m,pw),(m,p.size-m,0)] q st->Seg lt q 0 m->Seg lt q m p.size->1<=m->m<p.size->Run2 lt κ it n p st
theorem Seg.keep {p q:Array Nat}{lo:Nat}(P:PR n lo p q) (h:Seg lt p 0 lo):Seg lt q 0 lo:=λi j a b c=>by
 rw [P.eq i ∅,P.eq j c]
 exact h i j a b c
theorem SR.push0 {lo m:Nat}{p:Array Nat}{st:SortSt}(S:SR κ it #[] p st):SR κ it #[(lo,m,0)] p (me st ((cK st).push (lo,m,0))):=by
 refine ⟨S.k,S.a,?_,S.f⟩
 show (cK st).push _=_
 rw [S.p];rfl
theorem SR.push1 {lo m k:Nat}{p:Array Nat}{st:SortSt}(S:SR κ it #[(0,k,0)] p st) (pw:Nat):SR κ it #[(0,k,pw),(lo,m,0)] p (me (me st ((cK st).modify ((cK st).size-1) λx=>(x.1,x.2.1,pw))) ((cK (me st ((cK st).modify ((cK st).size-1) λx=>(x.1,x.2.1,pw)))).push (lo,m,0))):=by
 refine ⟨S.k,S.a,?_,S.f⟩
 show ((cK st).modify ((cK st).size-1) _).push _=_
 rw [S.p];rfl
theorem J6 (U:Ans prog w A s κ it lt n) (T:Tot lt) {p:Array Nat}(hp:∀i,p.getD i 0<n) (h2:2<=p.size) (ab:p.size<128) {st:SortSt}(S:SR κ it #[] p st) {Q:Unit->SortSt->Prop}
  (h:∀p' j,p'.toList.Perm p.toList->Seg lt p' 0 p.size->fO j=p'.map (aI it)->eS j=none->Q () j):wpS (ay prog w) A E s sortRuns' Q st:=by
 rw [sortRuns'_eq]
 refine aA (fP ?_)
 dsimp only
 have ac:(fO st).size=p.size:=by rw [S.a,aT]
 have al:=QM ∅ ab
 rw [ac]
 generalize rS p.size p.size 0=G at al
 have K:∀{q:Array Nat},PR n 0 p q->q.toList.Perm p.toList:=λP=>Array.perm_iff_toList_perm.mp P.pm
 refine aA (cA (c9 (I:=λx c j=>(x=0/\c=(none,0)/\SR κ it #[] p j)\/(∃m,x=1/\c=(none,m)/\G<=m/\m<p.size/\Run1 lt κ it n p m j)\/(c=(none,p.size)/\(Run1 lt κ it n p p.size j\/Run2 lt κ it n p j)))
  (Q:=λc j=>c=(none,p.size)/\(Run1 lt κ it n p p.size j\/Run2 lt κ it n p j)) ?step ?fin (.inl ⟨rfl,rfl,S⟩)) ?post)
 case fin =>
  rintro c j (⟨e,_⟩ | ⟨m,e,_⟩ | q)
  ·omega
  ·omega
  ·exact q
 case step =>
  rintro x c j _ hx (⟨rfl,rfl,l⟩ | ⟨m,rfl,rfl,m1,m2,R⟩ | ⟨rfl,R⟩)
  ·dsimp only
   rw [if_neg ∅]
   have M:∀m q b,PR n 0 p q->Seg lt q 0 (0+m)->SR κ it #[(0,m,0)] q b->G<=m\/m=p.size->1<=m->m<=p.size->(0+1=0/\(none,0+m)=((none:Option Unit),0)/\SR κ it #[] p b)\/(∃r,0+1=1/\(none,0+m)=((none:Option Unit),r)/\G<=r/\r<p.size/\Run1 lt κ it n p r b)\/((none,0+m)=((none:Option Unit),p.size)/\(Run1 lt κ it n p p.size b\/Run2 lt κ it n p b)):=λm q b P H V e1 N e3=>by
    rw [dq m] at H ⊢
    by_cases z:m=p.size
    ·subst z
     exact .inr (.inr ⟨rfl,.inl ⟨q,P,V,H,N,e3⟩⟩)
    ·exact .inr (.inl ⟨m,rfl,rfl,∅,∅,⟨q,P,V,H,N,e3⟩⟩)
   refine aA (vN U T hp ∅ ∅ l λk q v k1 k2 D J y=>?_)
   have O:=D.size
   dsimp only
   by_cases z:k<G
   ·rw [if_pos z]
    refine aA ↥120
    refine aA (yP U T D ∅ ∅ J y λq3 o P3 Y u=>?_)
    rw [if_neg ⋯]
    refine aA (fP ?_)
    rw [show (cK o).back? = none by rw [u.p];rfl]
    dsimp only
    refine aA (dm (aO ?_))
    exact M _ _ _ P3 Y u.push0 ∅ ∅ ∅
   ·rw [if_neg z]
    refine aA (fP ?_)
    rw [show (cK v).back? = none by rw [y.p];rfl]
    dsimp only
    refine aA (dm (aO ?_))
    exact M _ _ _ D J y.push0 ∅ ∅ ∅
  ·obtain ⟨q,P,l,H,t,C⟩:=R
   dsimp only
   rw [if_neg ∅]
   have an:=P.size
   have L:∀k B pw b,PR n m q B->Seg lt B m (m+k)->SR κ it #[(0,m,pw),(m,k,0)] B b->k=p.size-m->(1+1=0/\(none,m+k)=((none:Option Unit),0)/\SR κ it #[] p b)\/(∃r,1+1=1/\(none,m+k)=((none:Option Unit),r)/\G<=r/\r<p.size/\Run1 lt κ it n p r b)\/((none,m+k)=((none:Option Unit),p.size)/\(Run1 lt κ it n p p.size b\/Run2 lt κ it n p b)):=λk B pw b Z X V e=>by
    subst e
    rw [show m+(p.size-m)=p.size by omega] at X ⊢
    exact .inr (.inr ⟨rfl,.inr ⟨B,m,pw,⟨Z.pm.trans P.pm,Z.lt,λi hi=>absurd hi (eC i)⟩,V,Seg.keep Z H,X,t,m2⟩⟩)
   refine aA (vN U T P.lt ∅ ∅ l λk q2 v k1 k2 D J y=>?_)
   have O:=D.size
   dsimp only
   by_cases z:k<G
   ·rw [if_pos z]
    refine aA ↥120
    refine aA (yP U T D ∅ ∅ J y λq3 o P3 Y u=>?_)
    rw [if_neg ⋯]
    refine aA (fP ?_)
    rw [show (cK o).back? = some (0,m,0) by rw [u.p];rfl]
    dsimp only
    refine aA (cA (c9 (I:=λ_ c j=>j=o/\c=(none,())) (Q:=λc j=>j=o/\c=(none,())) ?_ (λ_ _ q=>q) ⟨rfl,rfl⟩) ?_)
    ·rintro x c j _ _ ⟨rfl,rfl⟩
     refine aA (fP ?_)
     rw [u.p]
     exact aO ⟨rfl,rfl⟩
    ·rintro c j ⟨rfl,rfl⟩
     dsimp only
     refine aA (dm (aA (dm (aO ?_))))
     exact L _ _ _ _ P3 Y (u.push1 _) ∅
   ·rw [if_neg z]
    refine aA (fP ?_)
    rw [show (cK v).back? = some (0,m,0) by rw [y.p];rfl]
    dsimp only
    refine aA (cA (c9 (I:=λ_ c j=>j=v/\c=(none,())) (Q:=λc j=>j=v/\c=(none,())) ?_ (λ_ _ q=>q) ⟨rfl,rfl⟩) ?_)
    ·rintro x c j _ _ ⟨rfl,rfl⟩
     refine aA (fP ?_)
     rw [y.p]
     exact aO ⟨rfl,rfl⟩
    ·rintro c j ⟨rfl,rfl⟩
     dsimp only
     refine aA (dm (aA (dm (aO ?_))))
     exact L _ _ _ _ D J (y.push1 _) ∅
  ·dsimp only
   rw [if_pos (ak _)]
   exact aO ⟨rfl,R⟩
 case post =>
  rintro c j ⟨rfl,R⟩
  dsimp only
  refine aA (cA (c9 (I:=λx c d=>c=(none,())/\((x=0/\Run2 lt κ it n p d)\/∃q pw,q.toList.Perm p.toList/\Seg lt q 0 p.size/\SR κ it #[(0,p.size,pw)] q d))
   (Q:=λc d=>c=(none,())/\∃q pw,q.toList.Perm p.toList/\Seg lt q 0 p.size/\SR κ it #[(0,p.size,pw)] q d) ?_ ?_ ⟨rfl,?_⟩) ?_)
  ·rintro x c d _ _ ⟨rfl,⟨rfl,⟨q,m,pw,P,l,t,C,g3,g4⟩⟩ | ⟨q,pw,t,C,l⟩⟩
   ·refine aA (fP ?_)
    rw [l.p,if_neg (by show ¬(2<=1);omega)]
    have O:=P.size
    rw [<- O] at l C g4
    refine aA (XM U T P.lt g3 g4 t C l λB o e1 N u=>?_)
    rw [if_neg ⋯]
    rw [O] at N u
    exact aO ⟨rfl,.inr ⟨B,pw,e1.trans (K P),N,u⟩⟩
   ·refine aA (fP ?_)
    rw [l.p,if_pos (by show 1<=1;omega)]
    exact aO ⟨rfl,q,pw,t,C,l⟩
  ·rintro c d ⟨am,⟨e,_⟩ | g⟩
   ·omega
   ·exact ⟨am,g⟩
  ·rcases R with ⟨q,P,l,t,_,_⟩ | R
   ·exact .inr ⟨q,0,K P,t,l⟩
   ·exact .inl ⟨rfl,R⟩
  ·rintro c d ⟨rfl,q,pw,t,C,l⟩
   exact aO (h q _ t C l.a l.f)
end
section
variable {prog:Program}{w:bx}{A:bC}{E:ai->Shared->Prop}{s:Shared}
theorem UU {O:KeyOrd}(key:Nat->O.α):Tot (ltK O key):=⟨λ_ _ _ h1 h2=>fX h1 h2,λ_ _ h=>fN h⟩
theorem Wf {its:List ai}{κ:di}{lt:Nat->Nat->Bool}(h2:¬its.length<2) (I:its.length<128) (T:Tot lt) (U:∀i j,i<its.length->j<its.length->∀G:Bool->Shared->Prop,G (lt i j) s->ax (ay prog w) A ↥114 G (λ_ _=>False) s) :
  ax (ay prog w) A ((sortRuns').run (tM κ ↥41 #[] 7 none)) (λr s'=>∃p:Array Nat,fO r.2=p.map (aI ↥41)/\eS r.2=none/\(qr its.length p/\p.toList.Pairwise (LE lt))/\s'=s) E s:=by
 have m:Ans prog w A s κ ↥41 lt its.length:=λi j hi l G q=>by
  rw [kat_item rfl,kat_item rfl]
  exact U i j hi l G q
 have b: (↥95).toArray.size=its.length:=by rw [au,bQ]
 have run:=J6 (E:=E) (p:=(↥95).toArray) (Q:=λ_ a=>∃p:Array Nat,fO a=p.map (aI ↥41)/\eS a=none/\(qr its.length p/\p.toList.Pairwise (LE lt))) m T (λi=>?_) (by rw [b];omega) (by rw [b];exact I) (st:=tM κ ↥41 #[] 7 none) ⟨rfl,?_,rfl,rfl⟩ λc a f d o n=>?_
 ·refine bf run (λr s' q=>?_) λ_ _ e=>e
  obtain ⟨e,p,k,h,g⟩:=q
  exact ⟨p,k,h,g,e⟩
 ·rw [av,List.getElem?_toArray]
  by_cases z:i<its.length
  ·rw [lL z];exact z
  ·rw [List.getElem?_eq_none (by rw [bQ];omega)]
   show 0<_
   omega
 ·have e:=kas_range ↥41
  rw [show (↥41).size=its.length by simp] at e
  exact e.symm
 ·refine ⟨c,o,n,Array.perm_iff_toList_perm.mpr f,?_⟩
  rw [b] at d
  have t:c.size=its.length:=by rw [<- aG,f.length_eq,aG,b]
  have:=d.pw (i:=0) (j:=c.size) (ak _) ∅
  rw [Array.extract_size] at this
  exact this
theorem Zi {l:Addr}{its:List ai}{κ:di}{lt:Nat->Nat->Bool}{Q:ai->Shared->Prop}(hl:s.heap.IsList l its.toArray) (h128:its.length<128) (T:Tot lt)
  (hk:2<=its.length->∀h',↥13->∀Q':di->Shared->Prop,Q' κ { s with heap:=h' }->ax (ay prog w) A.in1.in1 (Ag its.toArray) Q' (λ_ _=>False) { s with heap:=h' })
  (hc:∀h',↥13->∀i j,i<its.length->j<its.length->∀Q':Bool->Shared->Prop,Q' (lt i j) { s with heap:=h' } ->
   ax (ay prog w) A.in1.in1 ↥114 Q' (λ_ _=>False) { s with heap:=h' })
  (h:∀(ix:List Nat) (h':Heap) (n:Nat),ix.Perm ↥95->ix.Pairwise (LE lt)->↥13 ->
   h'.get? ↥12=some (b7 "list" (↥40).toArray n)->Q (.ref ↥12) { s with heap:=h' }) :
  ax (ay prog w) A (call ↥128 [.ref l]) Q E s:=by
 refine fZ oN nJ nK (rK _) ?_
 unfold Builtin.«sorted»
 refine aa (m:=pT "sorted" 1 1 _) ↥46
 refine aa (rM hl ?_ (by rw [bE];omega))
 refine aa (eJ ?_ (by rw [bE];omega))
 have hsz: (↥1).objs.size=s.heap.objs.size+1:=by
  rw [cS,lZ]
 have ho:((↥1).push ↥17).get? ↥12=some ↥17:=by
  rw [<- hsz];exact aE _ rfl
 have keep:∀b o,s.heap.get? b=some o->((↥1).push ↥17).get? b=some o:=λb o q=>by
  have hlt:b<s.heap.objs.size:=aw q
  rw [bX _ _ _ (by rw [hsz];exact aF (bW hlt)),bN _ _ _ _ (aF hlt),bX _ _ _ (aF hlt)]
  exact q
 show ax _ _ _ _ _ { s with heap:=(↥1).push ↥17 }
 rw [hsz]
 refine aa (bZ (dj m6 ⟨_,ho,rfl⟩ ly ?body (oO _)))
 case body =>
  generalize hh0: (↥1).push ↥17=h0 at ho keep
  generalize ha:s.heap.objs.size+1=a at ho h
  have aNew:∀b o,s.heap.get? b=some o->b≠a:=λb o q=>by have:=aw q;rw [<- ha];exact aF (bW this)
  show ax (ay prog w) A.in1.in1 (Builtin.«list.sort» ⟨[.ref a],[]⟩) _ _ { s with heap:=h0 }
  rw [og]
  have hal:a<h0.objs.size:=aw ho
  refine aa (lN ho rfl ?_)
  refine aa ↥103
  obtain ⟨e1,ho1⟩:∃e1,(h0.update a ↥71).get? a=some ↥118:=⟨_,dJ ho (λ_=>#[])⟩
  refine aa (dQ ho1 rfl ?_)
  refine aa ↥96
  refine aa (eJ ?_ (aB _))
  refine bZ ?_
  have ho6:((↥2).push ↥68).get? a=some ↥118:=by
   rw [bX _ _ _ (by rw [lZ,cS];exact aF (bW hal)),bX _ _ _ (by rw [cS];exact aF hal)]
   exact ho1
  have keep6:∀b o,s.heap.get? b=some o->((↥2).push ↥68).get? b=some o:=λb o q =>
   ah _ (ah _ ↥89)
  show ax (ay prog w) A.in1.in1 _ _ _ { s with heap:=(↥2).push ↥68 }
  generalize (↥2).push ↥68=h6 at ho6 keep6
  dsimp only
  have fin:∀(ix:List Nat),ix.Perm ↥95->ix.Pairwise (LE lt)->∀out:Array ai,out=(↥40).toArray ->
    ∃v,oP (Ah aV) = .done (.ret v)/\ax (ay prog w) A.in1 (do let _ <- pure v;ret (b8 a)) ↥32 E { s with heap:=h6.update a (aS λ_=>out) }:=λix hp hg out ho'=>by
   refine ⟨_,rfl,aa ↥111⟩
   subst ho'
   exact h ix _ _ hp hg ↥113 (dJ ho6 λ_=>_)
  by_cases h2:its.toArray.size<2
  ·rw [if_pos h2,if_pos h2]
   refine aa ↥46
   rw [lA]
   refine aa ↥46
   dsimp only
   refine aa (dQ ho6 rfl ?_)
   rw [yL]
   refine aa (cH ho6 rfl ?_ (aB _) (by rw [au,bE];omega))
   simp only [bne_self_eq_false,cF,if_false]
   rw [au] at h2
   exact wpAny_pure (fin _ (iB _) (by
    have hcase:its.length=0\/its.length=1:=∅
    rcases hcase with z | z
    ·rw [z];exact fM
    ·rw [z];exact dw _ _) _ (by rw [yE]))
  ·rw [if_neg h2,if_neg h2]
   rw [au] at h2
   refine aa ↥42
   obtain ⟨rfl,rfl⟩:=q
   refine aa (bf (Wf h2 h128 T (hc h6 keep6)) ?_ λ_ _ e=>e)
   ·rintro ⟨⟨⟩,st'⟩ s' ⟨p,har,hf,⟨hP,hG⟩,rfl⟩
    dsimp only
    have hout:=tG (ks:=its) (vs:=its) rfl har
    have hz:(nM (p.toList.map λi=>its.getD i aV)).size=its.length:=by rw [au,ag,aG,hP.size]
    rw [hout]
    refine aa (dQ ho6 rfl ?_)
    refine aa (cH ho6 rfl ?_ (aB _) (by rw [hz,bE];omega))
    rw [hf]
    simp only [bne_self_eq_false,cF,if_false]
    exact wpAny_pure (fin p.toList ↥63 hG _ rfl)
end
end L2
end
section
namespace L2
open PySem.W
noncomputable def jU (H:Hp) (vs:List V) (j:List (List Int)):Prop:=cW (λv (r:List Int)=>r≠[]/\∃a,v=V.ref a/\H a=some (.tup (r.map V.int))) vs j
theorem Jm {h:Heap}:∀(its:List ai),(∀v∈its,∃a o xs n m t,v = .ref a/\h.get? a=some o/\o.cls = .type "tuple" /\ o.data = .seq xs n/\xs[0]? = some (.int m t))->∃fs,KatTups h its fs/\fs.length=its.length/\∀v∈fs,∃m t,v = .int m t
 | [],_=>⟨[],KatTups.nil,rfl,λv b=>by cases b⟩
 | v::its,b=>by
  obtain ⟨fs,h1,h2,c⟩:=Jm its λv q=>b v (aK _ q)
  obtain ⟨a,o,xs,n,m,t,rfl,g,f,e,d⟩:=b v aM
  refine ⟨.int m t::fs,KatTups.cons g f e d h1,by rw [bo,bo,h2],λv q=>?_⟩
  rcases List.mem_cons.mp q with rfl | q
  ·exact ⟨m,t,rfl⟩
  ·exact c v q
section
variable {X:Cx}
theorem vQ (K:af) (hK:X.K=K:=by rfl):xf X ↥128 (λxs H Q=>∃p vs G,xs=[.ref p]/\SqL K H p vs/\vs.length<128/\jU H vs G /\
  ∀l H' out,H l=none->H' l=some (.lst out)->jo H H'->yj y4 (λi=>G.getD i []) vs out->Q (.ref l) H'):=by
 subst hK
 intro pins s σ H xs us Q I r h
 obtain ⟨p,vs,G,rfl,Z,ab,Y,k⟩:=h
 obtain ⟨u,rfl,x⟩:=vq r
 cases x
 obtain ⟨d,B,pl,hz⟩:=I.list Z
 have E:d.length=vs.length:=B.length.symm
 have item:∀i,i<d.length->∃a c n o,d.getD i aV = .ref a/\s.heap.get? a=some o/\(o.cls = .type "tuple" /\ o.data = .seq c.toArray n)/\dv c (G.getD i [])/\G.getD i []≠[]:=λi hi=>by
  have w:vs[i]? = some (vs[i]'∅):=ae ∅
  obtain ⟨y,g,e0,a,f,A⟩:=Paired.get Y w
  obtain ⟨u,M,x⟩:=B.get w
  rw [f] at x
  cases x
  obtain ⟨z,c,O,e6⟩:=I.hok a _ A
  obtain ⟨o,g1,g2,n,g3⟩:=e6
  refine ⟨a,c,n,o,by rw [ao,M];rfl,g1,⟨g2,g3⟩,?_,?_⟩
  ·rw [ao,g]
   exact xG O
  ·rw [ao,g]
   exact e0
 refine Zi (κ:=tuples' true) (lt:=ltK y4 λi=>G.getD i []) pl.isList ∅ (UU _) (λh2 h' e Q' q=>?_) (λh' e i j hi hj Q' q=>?_) λC h' n P hg e hn=>?_
 ·obtain ⟨fs,L,S,J⟩:=Jm (h:=h') d λv D=>by
   obtain ⟨i,hi,rfl⟩:=List.mem_iff_getElem.mp D
   obtain ⟨a,c,n,o,w,g,⟨c1,N⟩,f,A⟩:=item i hi
   have M:d[i] = .ref a:=by rw [<- w];simp [hi]
   generalize G.getD i []=row at f A
   cases f with
   | nil=>exact absurd rfl A
   | cons m t r=>exact ⟨a,o,_,n,m,t,M,e _ _ g,c1,N,by simp⟩
  refine kat_kind (T:=.type "int") L ∅ (λv D=>?_) rfl q
  obtain ⟨m,t,rfl⟩:=J v D
  exact pG rfl
 ·obtain ⟨a,c,n,o,w,g,⟨_,N⟩,f,_⟩:=item i hi
  obtain ⟨b,U,n2,o2,L,S,⟨_,d2⟩,J,_⟩:=item j hj
  rw [w,L]
  exact gX (e _ _ g) N (e _ _ S) d2 f J q
 ·have R:H ↥12=none:=I.hok.fresh (fc _)
  refine ⟨.ref _,upd H ↥12 (.lst (C.map λi=>vs.getD i V.non)),I.laid (t':=s.toks) e (fc _) ⟨?_,_,n,vz B C,hn⟩,rfl,k _ _ _ R j9 (jo.new R) ⟨C,by rw [<- E];exact P,rfl,List.pairwise_map.mpr hg⟩⟩
  rw [ag,P.length_eq,bQ]
  exact aN (by omega:d.length<=1000) ⋯
end
end L2
end
section
namespace L2
open PySem.W
theorem XR {s:Shared}{T id:String}(I:s.TypeIs a T) (Y:s.TypeIs b T)
  (hi:nu (.type T) (dunderI "add")=pure (some (.builtin id))) (G:isSeqSlot (some (.builtin id))=true) (j:fillsNumberSlot (.type T) "add" = pure false)
  (U:ax M A (call (.builtin id) [a,b]) Q E s):ax M A (se .Add a b) Q E s:=by
 unfold se
 refine bZ ?_
 have c:sy (.type T) "add" (Operator.Add == .Add)=pure false:=by
  unfold sy
  show (nu (.type T) (dunderI "add") >>= λd=>pure (d.isSome && !isSeqSlot d))=pure false
  rw [hi]
  show (pure ((some (tY id)).isSome && !isSeqSlot (some (.builtin id))):Sem Bool)=pure false
  rw [G];rfl
 refine aa (nN I (aa (oS c ?_)))
 show ax M A (if false=true then _ else _) Q E s
 rw [if_neg aq]
 refine aa (wpAny_binaryOp1_none (nm:="add") I Y j ?_)
 refine aa (oS (PySem.seqSlot_of hi G) ?_)
 exact aa (d9 U)
section
variable {X:Cx}
noncomputable def ipL:TIp:=λx y H Q=>∃(l b:Addr) (xs zs:List V),x = .ref l/\y = .ref b/\H l=some (.lst xs)/\H b=some (.lst zs)/\xs.length+zs.length<=sizeLine/\Q (.ref l) (upd H l (.lst (xs++zs)))
theorem Uu:PIp X .Add ipL:=by
 intro pins s σ H x y v u Q I k f h
 obtain ⟨l,b,xs,zs,rfl,rfl,i,o,w,q⟩:=h
 cases k
 cases f
 obtain ⟨z,c,n,r,A,e⟩:=I.lstM i
 obtain ⟨t,a,m,f,p,j⟩:=I.lstM o
 have g:c.toArray.size+a.toArray.size<=sizeLine:=by rw [au,au];omega
 have d:¬(!c.toArray.isEmpty && eI (c.toArray.size+a.toArray.size))=true:=by
  rw [QE g,tj]
  exact aq
 refine XR (T:="list") (id:="list.__iadd__") ⟨_,e,rfl⟩ ⟨_,j,rfl⟩ F.slot_list_iadd.lookup ↥31 noFill_list_add ?_
 refine nE F.slot_list_iadd ⟨_,e,rfl⟩ F.entry_list_iadd (F.args_list_iadd_2 _ _)
  (AutoSeq1.list___iadd___list_list_0 l c.toArray n b a.toArray m d (by rw [au];omega) ∅) ⟨e,j,?_⟩
 refine ⟨.ref l,_,I.lset (its':=c++a) i e (by simp) (r.append f) ?_,rfl,q⟩
 rw [ar]
 omega
end
end L2
end
section
namespace K36
open L2
local macro_rules | `(tactic| walk_at "hp")=>`(tactic| first | assumption | exact j9 | (rw [j8 (by first | assumption | (apply cV;assumption))];first | assumption | exact j9))
local macro_rules | `(tactic| walk_at "num")=>`(tactic| first | decide | omega)
local macro_rules | `(tactic| walk_at "rd1")=>`(tactic| first | refine rdA _ rfl ?_ | refine rdB _ _ rfl rfl ?_ | refine ⟨_,rfl,?_⟩ | refine ⟨_,_,rfl,rfl,?_⟩ | refine ik (show Vb _ _ from lr ⟨by walk_at "num",by walk_at "num"⟩) ?_ | refine ik (show Vb _ _ from aR ⟨by walk_at "num",by walk_at "num"⟩) ?_ | refine ik (show Wn _ _ from ⟨by walk_at "num",by walk_at "num"⟩) ?_ | refine ik (show Ee _ _ from ⟨by walk_at "num",by walk_at "num",by walk_at "num"⟩) ?_ | refine ik (show (0:Int)<_ by walk_at "num") ?_ | refine ⟨_,_,_,_,rfl,rfl,SqL.of (by walk_at "hp"),(by rfl),?_⟩ | refine ⟨_,_,_,_,rfl,rfl,SqT.of (by walk_at "hp"),(by rfl),?_⟩ | refine ⟨_,_,_,_,rfl,rfl,(by assumption),(by rfl),?_⟩ | refine ⟨_,_,_,_,rfl,rfl,(by walk_at "hp"),(by rfl),?_⟩ | refine ⟨rfl,?_⟩)
local macro_rules | `(tactic| walk_at "r")=>`(tactic| repeat walk_at "rd1")
local macro_rules | `(tactic| walk_at "s")=>`(tactic| exact ⟨rfl,rfl,rfl,by decide +kernel,rfl,by decide +kernel,by decide +kernel⟩)
local macro_rules | `(tactic| walk_at "k")=>`(tactic| decide +kernel)
local macro_rules | `(())=>`(by first | lia | omega)
local macro_rules | `(tactic| right)=>`(tactic| first | lia | omega)
local macro_rules | `(∅)=>`(by decide +kernel)
local macro_rules | `(tactic| walk_at "w")=>`(tactic| (intro _ z;cases z))
local macro_rules | `(tactic| walk_at "z")=>`(tactic| (intro z;cases z))
noncomputable def top (i:Nat):Stmt:=PySem.Challenge.pw_firnfall_k36_falls_that_can_have_brought.main.body.getD i (.Pass ⟨0,0,0,0⟩)
noncomputable abbrev zO:Stmt:=top 16
noncomputable abbrev yx:Stmt:=top 17
noncomputable abbrev vR:Stmt:=top 18
noncomputable abbrev Q5:Stmt:=top 19
noncomputable abbrev qX:Stmt:=top 20
noncomputable abbrev ul:Stmt:=top 21
noncomputable abbrev gG:Stmt:=top 22
noncomputable abbrev xN:Stmt:=top 23
noncomputable abbrev vB:Stmt:=top 24
noncomputable abbrev yF:Stmt:=top 29
noncomputable abbrev yM:Stmt:=top 30
noncomputable abbrev gC:Stmt:=top 31
noncomputable abbrev yN:Stmt:=top 36
noncomputable abbrev y6:Stmt:=top 38
noncomputable abbrev qM:Stmt:=(zy (top 39) 0)
noncomputable abbrev xE:Stmt:=(zy (top 39) 4)
noncomputable abbrev xq:Stmt:=(zy (top 39) 5)
noncomputable abbrev zW:Stmt:=(zy (top 39) 6)
noncomputable abbrev y9:Stmt:=(zy (top 39) 7)
noncomputable abbrev vg:Stmt:=(zy (top 39) 8)
noncomputable abbrev yA:Stmt:=(zy (top 39) 10)
noncomputable abbrev xY:Stmt:=(zy (top 39) 14)
noncomputable abbrev ub:Stmt:=(zy (top 39) 16)
noncomputable abbrev vy:Stmt:=top 41
noncomputable abbrev uf:Stmt:=top 42
noncomputable abbrev Z0:Stmt:=top 43
noncomputable abbrev XX:Stmt:=top 45
noncomputable abbrev zo:Stmt:=top 47
noncomputable abbrev we:Stmt:=top 48
noncomputable abbrev wm:Stmt:=top 50
noncomputable abbrev ve:Stmt:=top 51
noncomputable abbrev vX:Stmt:=top 52
noncomputable abbrev vk:Stmt:=top 53
noncomputable abbrev zn:Stmt:=top 54
noncomputable abbrev y7:Stmt:=top 55
noncomputable abbrev zL:Stmt:=top 56
noncomputable abbrev qw:Stmt:=top 57
noncomputable abbrev xj:Stmt:=top 58
noncomputable abbrev zg:Stmt:=top 59
noncomputable abbrev yy:Stmt:=top 60
noncomputable abbrev ug:Stmt:=top 61
noncomputable abbrev zp:Stmt:=top 62
noncomputable abbrev uh:Stmt:=top 63
noncomputable abbrev wg:Stmt:=top 64
noncomputable abbrev vT:Stmt:=top 65
noncomputable abbrev yK:Stmt:=top 66
noncomputable abbrev uj:Stmt:=top 67
noncomputable abbrev xu:Stmt:=top 68
noncomputable abbrev yw:Stmt:=top 69
noncomputable abbrev yu:Stmt:=top 70
noncomputable abbrev zr:Stmt:=top 71
noncomputable abbrev vS:Stmt:=top 72
noncomputable abbrev vj:Stmt:=top 73
noncomputable abbrev yb:Stmt:=top 74
noncomputable abbrev uV:Stmt:=top 75
section
variable {P:Program}{w:bx}{K:af}{mg:Str->Option ai}{base:Heap}
noncomputable abbrev GB:Pos:=⟨47,28,47,49⟩
noncomputable abbrev qJ (H:Hp) (Pt:Addr):Prop:=Tab H Pt GB (("lanes" : Str) ++ ".<locals>." ++ "<lambda>")
inductive spLeads  (vs:List V) (H:Hp) (Q:VK) (z_3:XK):Prop
 | mk (i:Nat) (t:Int) (_:vs=[.int i,.int t]) (_:Q (.bl (xP i t)) H)
theorem Xg:FnScope ["number","to"] ["number","to"] (ja vR):=by walk_at "s"
theorem XE (F:Fun K "leads_on" "leads_on" vR f fd):FnOk P w K mg base CX0 1 f fd ["number","to"] spLeads:=by
 refine F.ok Xg (λc H Q E h=>?_) (λd A outer s H c Q E g h=>?_)
 ·obtain ⟨i,t,rfl,_⟩:=h
  rfl
 ·obtain ⟨i,t,rfl,k⟩:=h
  refine ⟨_,(j6 (jN (jq xA (pv 0) j7 (jw _)) (jb (jk (zP xA (pv 1) (kZ vY j7) (jw _)))) jv)
   (jb (jk (yn qC vK j7 (pv 1) (pv 0))))),?_⟩
  have fin:∀b:Bool,b=xP i t->Q (.bl b) H:=λb e=>by rw [e];exact k
  walk_at "r"
  refine qp (λh1=>?_) (λh1=>?_)
  ·walk_at "r"
   have a:i=0:=by have:=V.int.inj h1;right
   refine fin _ ?_
   unfold xP
   rw [if_pos a]
   exact decide_eq_decide.mpr ⟨λz=>V.int.inj z,λz=>by rw [z]⟩
  ·have a:i≠0:=λz=>h1 (by rw [z];rfl)
   walk_at "r"
   refine qp (λh2=>?_) (λh2=>?_)
   ·walk_at "r"
    refine fin _ ?_
    unfold xP
    rw [if_neg a]
    exact decide_eq_decide.mpr ⟨λz=>⟨h2,z⟩,λz=>z.2⟩
   ·refine fin _ ?_
    unfold xP
    rw [if_neg a,decide_eq_false (λz=>h2 z.1)]
inductive spReach  (vs:List V) (H:Hp) (Q:VK) (z_3:XK):Prop
 | mk (i:Nat) (v:V) (r:Rch) (_:vs=[.int i,v]) (_:JX H v r) (_:r.2.length<=100) (_:∀H',jo H H'->Q (.bl (okR i r)) H')
theorem vd:FnScope ["number","reach","to","slope"] ["number","reach"] (ja yx):=by walk_at "s"
theorem QZ (nb:Nb2 mg) (I:mg "MOST_HEIGHTS" = some (.int 12 u0)) (G:mg "GREATEST_HEIGHT" = some (.int 99 u1)) (U:Cal P w K mg base 1 "leads_on" ["number","to"] spLeads) (F:Fun K "is_reach" "is_reach" yx f fd):FnOk P w K mg base CX0 2 f fd ["number","reach"] spReach:=by
 refine F.ok vd (λR H Q E h=>?_) (λZ A outer s H R Q E T h=>?_)
 ·obtain ⟨i,v,r,rfl,_⟩:=h
  rfl
 ·obtain ⟨i,v,⟨t,d⟩,rfl,⟨p,g,rfl,X,C⟩,J,k⟩:=h
  have O:d.length<=100:=J
  have fin:∀(b:Bool) (H':Hp),jo H H'->b=okR i (t,d)->Q (.bl b) H':=λb H' S e=>by rw [e];exact k H' S
  refine ⟨_,(j6 (xO (pv 1) (qj (n:=2) K rfl (jh (jd (i:=2) vd.nd rfl (aR rfl)) (jh (jd (i:=3) vd.nd rfl (aR rfl)) qi))))
   (j6 (jN (PW.pt (ZX (xM (zZ (je U (T.mono ⋯) rfl (j0 (pv 0) ↥65)))) (Qz (xM (zf qC qC j7 (jf (ji K) rfl nb.b_len b9 (j0 (pv 3) j5)) (xL (v:=V.int 12) rfl I ⟨_,rfl⟩)))))) (jb (jk wV)) jv)
   (jb (jk (jf (yr K rfl) rfl nb.b_all rT (j0 (qc (osc:=(ja yx)) (ON:=["number","reach","to","slope"]) (N:=["height"]) (own:=1) (caps:=[]) ⟨rfl,∅,∅,∅,rfl,∅⟩ rfl rfl rfl (uJ K (pv 3)) (λ_ _ _ _ _=>(jd (i:=0) (show bp (["height"]:List Str) by decide +kernel) rfl (aR rfl))) ↥38 (λ_ _ _ _ _=>(yn qC qC j7 (pv 0) (xL (v:=V.int 99) rfl G ⟨_,rfl⟩)))) j5)))))),?_⟩
  walk_at "r"
  refine ⟨p,_,rfl,SqT.of X,rfl,?_⟩
  refine ⟨_,_,rfl,_,_,rfl,rfl,?_⟩
  walk_at "r"
  refine ⟨i,t,rfl,?_⟩
  walk_at "r"
  cases B:xP i t with
  | false =>
   refine vW ?_
   walk_at "r"
   exact fin _ H (jo.refl H) (by unfold okR;rw [B];rfl)
  | true =>
   refine gp ?_
   walk_at "r"
   refine ⟨_,_,rfl,.inr (SqT.of C),?_⟩
   walk_at "r"
   rw [ag]
   refine qp (λh1=>?_) (λh1=>?_)
   ·walk_at "r"
    refine yV (λh2=>?_) (λh2=>?_)
    ·walk_at "r"
     exact fin _ H (jo.refl H) (by unfold okR;rw [B,decide_eq_false (λz=>h2 z.2)];rfl)
    ·walk_at "r"
     refine ⟨⟨_,SqT.of C⟩,λacc m=>?_⟩
     refine Xx (K:=K) (a:=g) (xs:=d.map V.int) (acc:=acc) (λj σ H2=>∃x:Option V,σ=[x]/\H2 acc=some (.lst (((d.take j).map λx=>decide (0<=x/\x<=99)).map V.bl))/\Ext acc H H2) ?_ ?_ ?_ ?_
     ·exact ⟨none,rfl,j9,Ext.put⟩
     ·rintro j σ H2 Y ⟨x,rfl,q,u⟩
      exact SqT.of (u _ _ C (j4 C m))
     ·rintro j v σ H2 l ⟨x,rfl,q,u⟩
      obtain ⟨z,rfl⟩:=vn l
      have L:d[j]? = some z:=by
       rw [aH] at l
       cases e:d[j]? with
       | none=>rw [e] at l;cases l
       | some y=>rw [e] at l;cases l;rfl
      have Y:j<d.length:=(List.getElem?_eq_some_iff.mp L).1
      have done:∀b:Bool,b=decide (0<=z/\z<=99)->∃ys,H2 acc=some (.lst ys)/\ys.length<sizeLine/\∃x:Option V,[some (V.int z)]=[x]/\upd H2 acc (.lst (ys++[V.bl b])) acc=some (.lst (((d.take (j+1)).map λx=>decide (0<=x/\x<=99)).map V.bl))/\Ext acc H (upd H2 acc (.lst (ys++[V.bl b]))):=λb e=>by
       refine ⟨_,q,by rw [ag,ag,aY];exact jj (),_,rfl,?_,u.trans Ext.put⟩
       rw [j9,qG (λx=>decide (0<=x/\x<=99)) d j z L,aD,e]
       rfl
      walk_at "r"
      refine qp (λD=>?_) (λD=>?_)
      ·walk_at "r"
       exact done _ (decide_eq_decide.mpr ⟨λy=>⟨D,y⟩,λy=>y.2⟩)
      ·exact done _ (decide_eq_false λy=>D y.1).symm
     ·rintro σ H2 ⟨x,rfl,q,u⟩
      rw [ag,bg] at q
      refine ⟨acc,_,rfl,SqL.of q,?_⟩
      refine fin _ H2 (λc o M=>u c o M (j4 M m)) ?_
      unfold okR
      rw [B,decide_eq_true (show (1<=(d.length:Int)/\(d.length:Int)<=12) from ⟨h1,h2⟩),iC]
      rfl
   ·refine ⟨_,rfl,vW ?_⟩
    walk_at "r"
    exact fin _ H (jo.refl H) (by unfold okR;rw [B,decide_eq_false (λz=>h1 z.1)];rfl)
inductive spWayDown (K:af) (vs:List V) (H:Hp) (Q:VK) (z_3:XK):Prop
 | mk (p:Addr) (xs:List V) (rs:List Rch) (h:Nat) (_:vs=[.ref p,.int h]) (_:H p=some (.lst xs)) (_:qd H xs rs) (_:xz rs) (_:h<rs.length) (_:rs.length<=100) (_:∀t H',H t=none->H' t=some (.tup ((qB rs h).map V.int))->jo H H'->Q (.ref t) H')
theorem zT:FnScope ["reaches","head","way","reach"] ["reaches","head"] (ja ul):=by walk_at "s"
theorem QF (nb:Nb2 mg) (F:Fun K "way_down" "way_down" ul f fd):FnOk P w K mg base CX0 1 f fd ["reaches","head"] (spWayDown K):=by
 refine F.ok zT (λU H Q E h=>?_) (λal A outer s H U Q E hr h=>?_)
 ·obtain ⟨p,xs,rs,h,rfl,_⟩:=h
  rfl
 ·obtain ⟨p,xs,rs,h,rfl,I,y,L,hh,ac,k⟩:=h
  refine ⟨_,(j6 (js 2 zT.nd (jB j5))
   (j6 (js 3 zT.nd (pv 1))
   (j6 (QV bh (jq QX (pv 3) j7 (jw _)) (j6 (qa (zw K bF bz bA qh (pv 2) (j0 (pv 3) j5)))
   (jb (js 3 zT.nd (jp (ql K) (jp (jg K) (pv 0) (pv 3) (λ_ _=>rfl)) j7 (λ_ _=>rfl))))))
   (jb (jk (qN (zE K) rfl nb.b_tuple dC ↥65)))))),?_⟩
  walk_at "r"
  refine ⟨aB _,λwy H1 n m s1=>?_⟩
  walk_at "r"
  have ab:=y.length
  refine XH (λσ H2=>∃(a:List Int) (r:Int),σ=[some (.ref p),some (.int h),some (.ref wy),some (.int r)]/\H2 wy=some (.lst (a.map V.int))/\Ext wy H1 H2 /\ -1<=r/\r<rs.length/\a.length+(r+1).toNat<=100/\a++(if r<0 then [] else qB rs r.toNat)=qB rs h) (λσ H2=>match σ with | [_,_,_,some (.int r)]=>(r+1).toNat | _=>0) ?_ ?_ ?_
  ·refine ⟨[],h,rfl,m,Ext.refl,(),(),by simp;right,?_⟩
   rw [if_neg ()]
   rfl
  ·rintro σ H2 ⟨a,r,rfl,b,d,r0,r1,rl,u⟩
   walk_at "r"
   refine qp (λB=>?_) (λB=>?_)
   ·have R:H2 p=some (.lst xs):=d _ _ (s1 _ _ I) (j4 I n)
    have D:qd H2 xs rs:=y.keep ((jn.same s1).trans (jn.lst d m))
    have hi:r.toNat<rs.length:=()
    obtain ⟨v,Z,q,g,rfl,G,hg⟩:=D.at (ae hi)
    have l:=L.lt hi
    have x:=(kP (L _ hi)).2.1
    have J:=JQ (ae hi)
    rw [J] at l x
    generalize (rs[r.toNat]'hi).1=C at l x J G
    walk_at "r"
    refine ⟨.inl ⟨rfl,_,SqL.of b⟩,?_⟩
    walk_at "r"
    refine ⟨wy,_,_,rfl,rfl,b,by rw [ag];exact jj (),?_⟩
    have S:q≠wy:=jm G b ↥3
    have O:upd H2 wy (.lst (a.map V.int++[.int r])) p=some (.lst xs):=by rw [j8 (j4 I n)];exact R
    have N:upd H2 wy (.lst (a.map V.int++[.int r])) q=some (.tup [.int C,.ref g]):=by rw [j8 S];exact G
    walk_at "r"
    refine ⟨_,_,_,_,rfl,rfl,SqL.of O,xg B Z,?_⟩
    refine ⟨_,_,_,_,rfl,rfl,SqT.of N,rfl,?_⟩
    refine ⟨⟨a++[r],C,rfl,?_,d.trans Ext.put,(),(),?_,?_⟩,?_⟩
    ·rw [j9,aD];rfl
    ·rw [ar,bu];right
    ·rw [<- u,if_neg (show ¬r<0 by right),zS L hi,J,bR]
     congr 1
     show r::_=_
     congr 1
     right
    ·show (C+1).toNat<(r+1).toNat
     right
   ·rw [if_pos (),bj] at u
    subst u
    walk_at "r"
    refine ⟨wy,_,rfl,SqL.of b,λt H3 l M X=>?_⟩
    exact k t H3 (s1.free (d.free l (λz=>by rw [z,b] at l;cases l))) M (λc o T=>X _ _ (d _ _ (s1 _ _ T) (j4 T n)))
  ·intro σ H2 Q1 Q2 hQ h
   obtain ⟨v,e,r⟩:=h
   obtain ⟨i,j,e1,d,Y,e3,r⟩:=r
   exact ⟨v,e,i,j,e1,d,Y,e3,hQ _ _ r⟩
inductive spCount (K:af) (vs:List V) (H:Hp) (Q:VK) (z_3:XK):Prop
 | mk (p a:Addr) (xs:List V) (rs:List Rch) (way:List Int) (_:vs=[.ref p,.ref a]) (_:H p=some (.lst xs)) (_:qd H xs rs) (_: ↥110) (_:H a=some (.tup (way.map V.int))) (_:(∀r∈way,0<=r/\r<rs.length)) (_:way.length<=100) (_:∀H',jo H H'->Q (.int (jD rs way)) H')
theorem wZ:FnScope ["reaches","way"] ["reaches","way"] (ja xN):=by walk_at "s"
theorem k7 (nb:Nb2 mg) (F:Fun K "count_places" "count_places" xN f fd):FnOk P w K mg base CX0 1 f fd ["reaches","way"] (spCount K):=by
 refine F.ok wZ (λM H Q E h=>?_) (λY A outer s H M Q E t h=>?_)
 ·obtain ⟨p,a,xs,rs,G,rfl,_⟩:=h
  rfl
 ·obtain ⟨p,a,xs,rs,G,rfl,J,u,D,C,z,X,k⟩:=h
  have S:=u.length
  refine ⟨_,(jb (jk (jf (gq K rfl) rfl nb.b_sum Aj (j0 (qc (osc:=(ja xN)) (ON:=["reaches","way"]) (N:=["reach","reaches"]) (own:=1) (caps:=[0]) ⟨rfl,∅,∅,∅,rfl,∅⟩ rfl rfl rfl (uJ K (pv 1)) (λ_ _ _ _ _=>(jd (i:=0) (show bp (["reach","reaches"]:List Str) by decide +kernel) rfl (aR rfl))) ↥38 (λ_ _ _ _ _=>(jf (ji K) rfl nb.b_len b9 (j0 (jp (ql K) (jp (jg K) (pv 1) (pv 0) (λ_ _=>rfl)) j7 (λ_ _=>rfl)) j5)))) j5)))),?_⟩
  walk_at "r"
  refine ⟨⟨_,SqT.of C⟩,λacc b=>?_⟩
  refine Xx (K:=K) (a:=a) (xs:=G.map V.int) (acc:=acc) (λj σ H2=>∃x:Option V,σ=[x,some (.ref p)]/\H2 acc=some (.lst (((G.take j).map λr=>((y3 rs r.toNat).length:Int)).map V.int))/\Ext acc H H2) ?_ ?_ ?_ ?_
  ·exact ⟨none,rfl,j9,Ext.put⟩
  ·rintro j σ H2 T ⟨x,rfl,m,d⟩
   exact SqT.of (d _ _ C (j4 C b))
  ·rintro j v σ H2 l ⟨x,rfl,m,d⟩
   obtain ⟨r,rfl⟩:=vn l
   have B:G[j]? = some r:=by
    rw [aH] at l
    cases e:G[j]? with
    | none=>rw [e] at l;cases l
    | some y=>rw [e] at l;cases l;rfl
   have T:j<G.length:=(List.getElem?_eq_some_iff.mp B).1
   have t:=z r (aC B)
   have hi:r.toNat<rs.length:=()
   obtain ⟨v,I,q,g,rfl,O,U⟩:=(u.keep (jn.new d b)).at (ae hi)
   walk_at "r"
   refine ⟨_,_,_,_,rfl,rfl,SqL.of (d _ _ J (j4 J b)),xg t.1 I,?_⟩
   refine ⟨_,_,_,_,rfl,rfl,SqT.of O,rfl,?_⟩
   refine ⟨_,_,rfl,.inr (SqT.of U),?_⟩
   refine ⟨_,m,by rw [ag,ag,aY];exact jj (),_,rfl,?_,d.trans Ext.put⟩
   rw [j9,qG (λr:Int=>((y3 rs r.toNat).length:Int)) G j r B,aD,Qd (ae hi),ag]
   rfl
  ·rintro σ H2 ⟨x,rfl,m,d⟩
   rw [ag,bg] at m
   refine ⟨acc,_,rfl,SqL.of m,by rw [ag];right,λn R=>?_,?_⟩
   ·obtain ⟨r,t,rfl⟩:=List.mem_map.mp R
    have Z:=z r t
    have hi:r.toNat<rs.length:=()
    have:=D _ (cJ hi)
    rw [Qd (ae hi)]
    right
   ·exact k H2 λc o L=>d c o L (j4 L b)
inductive spLanes (K:af) (Pt:Addr) (vs:List V) (H:Hp) (Q:VK) (z_3:XK):Prop
 | mk (p:Addr) (xs:List V) (rs:List Rch) (_:vs=[.ref p]) (_:H p=some (.lst xs)) (_:qd H xs rs) (_:xz rs) (_:rs.length<=60) (_:qJ H Pt) (_:∀l H' out ws,H l=none->H' l=some (.lst out)->yp H' out ws->qg rs ws->Ext Pt H H'->qJ H' Pt->Q (.ref l) H')
theorem ku:FnScope ["reaches","entered","ways"] ["reaches"] (ja qX):=by walk_at "s"
theorem gv {α:Type}(l:List α) (d:α):((aW l.length).map λi=>l.getD i d)=l:=by
 apply mV
 ·simp
 ·intro i h1 h2
  simp [h2]
theorem Jv {vs:List V}{ws:List (List Int)}(h:yp H vs ws):∀G:List Nat,(∀i∈G,i<vs.length)->yp H (G.map λi=>vs.getD i V.non) (G.map λi=>ws.getD i [])
 | [],_=>.nil
 | i::G,b=>by
  refine .cons ?_ (Jv h G λj c=>b j (aK _ c))
  have hi:=b i aM
  obtain ⟨y,f,a,e,d⟩:=Paired.get h (ae hi)
  refine ⟨a,?_,?_⟩
  ·show vs.getD i V.non=V.ref a
   rw [ao,ae hi];exact e
  ·show H a=some (.tup ((ws.getD i []).map V.int))
   rw [ao,f];exact d
theorem Q7 {j:List (List Int)}{vs out:List V}(U:j=(ju rs).map (qB rs)) (G:yp H vs j) (k:jn H H') (I:yj y4 (λi=>(j.getD i []).reverse) vs out):∃ws,yp H' out ws/\qg rs ws:=by
 obtain ⟨a,c,e,b⟩:=I
 have d:∀i∈a,i<vs.length:=λi hi=>by have:=c.mem_iff.mp hi;simpa using this
 refine ⟨a.map λi=>j.getD i [],by rw [e];exact (Jv G a d).keep k,?_,?_⟩
 ·have:=c.map λi=>j.getD i []
  rw [G.length,gv] at this
  rw [<- U]
  exact this
 ·rw [cz]
  exact b
theorem Vh {oc:ai}{od:Option Addr}{aL:Array (Option ai)}{kV pm:ai}(nb:Nb2 mg) (G:Cal P w K mg base 1 "way_down" ["reaches","head"] (spWayDown K)) (CH:PySem.W.CodeHd base c Pt) (a9:Bm mg base)
  (l:K.lookup f=some ⟨oc,od,.func (bO "lanes" "lanes" (qf qX) (jS qX) (ja qX) .none kV doc pm an (.ref c) ct),aL⟩) (cd:d6 K (.ref c) "lanes" = true) :
  FnOk P w K mg base CX0 5 f (bO "lanes" "lanes" (qf qX) (jS qX) (ja qX) .none kV doc pm an (.ref c) ct) ["reaches"] (spLanes K Pt):=by
 refine Fun.okC l cd ku (λb H Q E h=>?_) (λA outer s H b Q E S h=>?_)
 ·obtain ⟨p,xs,rs,rfl,_⟩:=h
  rfl
 ·obtain ⟨p,xs,rs,rfl,U,R,L,bc,hT,k⟩:=h
  have Y:=R.length
  refine ⟨_,(j6 (uc (i:=1) ku.nd rfl (lr rfl) (qc (osc:=(ja qX)) (ON:=["reaches","entered","ways"]) (N:=["to","slope"]) (own:=2) (caps:=[]) ⟨rfl,∅,∅,∅,rfl,∅⟩ rfl rfl rfl (jX K (pv 0)) (λ_ _ _ _ _=>(qj (n:=2) K rfl (jh (jd (i:=0) (show bp (["to","slope"]:List Str) by decide +kernel) rfl (aR rfl)) (jh (jd (i:=1) (show bp (["to","slope"]:List Str) by decide +kernel) rfl (aR rfl)) qi)))) ↥38 (λ_ _ _ _ _=>(pv 0))))
   (j6 (ZL (j:=2) (osc:=(ja qX)) (ON:=["reaches","entered","ways"]) (N:=["head","reaches","entered"]) (own:=1) (caps:=[0,1]) ⟨rfl,∅,∅,∅,rfl,∅⟩ ku.nd rfl (aR rfl) rfl rfl rfl (qy rfl nb.b_range (j0 ↥105 j5)) (λ_ _ _ _ _=>(jd (i:=0) (show bp (["head","reaches","entered"]:List Str) by decide +kernel) rfl (aR rfl))) (λ_ _ _ _ _=>(yk (jq (ya K) (pv 0) (pv 2) ↥60))) (λ_ _ _ _ _=>(je G (S.mono ⋯) rfl (j0 (pv 1) ↥53))))
   (jb (jk (Z3 (N:=["way"]) (x:="way") (k:=0) rfl nb.b_sorted ↥65 rfl CH a9 (S.mono ⋯) (by walk_at "s") (λ_ _ _ _=>rfl) (λ_ _ _ _=>(Um K (pv 0)))))))),?_⟩
  walk_at "r"
  refine ⟨⟨_,SqL.of U⟩,λO d=>?_⟩
  refine qv (K:=K) (a:=p) (xs:=xs) (acc:=O) (λj σ H2=>∃x y:Option V,σ=[x,y]/\H2 O=some (.lst (((rs.take j).map (·.1)).map V.int))/\Ext O H H2) ?_ ?_ ?_ ?_
  ·exact ⟨none,none,rfl,j9,Ext.put⟩
  ·rintro j σ H2 hj ⟨x,y,rfl,B,e⟩
   exact SqL.of (e _ _ U (j4 U d))
  ·rintro j v σ H2 hv ⟨x,y,rfl,B,e⟩
   obtain ⟨r,S,q,g,rfl,hq,hg⟩:=(R.keep (jn.new e d)).get hv
   have hj:j<rs.length:=(List.getElem?_eq_some_iff.mp S).1
   walk_at "r"
   refine ⟨q,_,rfl,SqT.of hq,rfl,?_⟩
   refine ⟨_,_,rfl,_,_,rfl,rfl,?_⟩
   walk_at "r"
   refine ⟨_,B,by rw [ag,ag,aY];exact jj (),_,_,rfl,?_,e.trans Ext.put⟩
   rw [j9,qG (λr:Rch=>r.1) rs j r S,aD]
   rfl
  ·rintro σ H2 ⟨x,y,rfl,B,e⟩
   rw [Y,bg] at B
   have T:=e _ _ U (j4 U d)
   have am:qd H2 xs rs:=R.keep (jn.new e d)
   have a8:qJ H2 Pt:=hT.extN d e
   walk_at "r"
   refine ⟨_,_,rfl,.inl (SqL.of T),?_⟩
   refine ⟨_,rfl,(),(),λwy u=>?_⟩
   rw [Y]
   refine xV (lo:=0) (n:=((rs.length:Nat):Int).toNat) (acc:=wy) (λj σ I=>∃(x:Option V) (b:List V),σ=[x,some (.ref p),some (.ref O)]/\I wy=some (.lst b)/\yp I b (((aW j).filter (jR rs)).map (qB rs))/\Ext wy H2 I/\b.length<=j) ?_ ?_ ?_
   ·exact ⟨none,[],rfl,j9,.nil,Ext.put,ak _⟩
   ·rintro j σ I hj ⟨x,b,rfl,D,C,m,l4⟩
    have a5:j<rs.length:=()
    have az:=m _ _ B (j4 B u)
    have a4:=m _ _ T (j4 T u)
    have al:qd I xs rs:=am.keep (jn.new m u)
    have er:(aW (j+1)).filter (jR rs)=(aW j).filter (jR rs)++(if jR rs j=true then [j] else []):=by
     rw [dg,bK]
     congr 1
     by_cases z:jR rs j=true
     ·rw [if_pos z];simp [z]
     ·rw [if_neg z];simp [z]
    walk_at "r"
    refine ⟨O,_,rfl,.inl (SqL.of az),rfl,yi _,?_⟩
    walk_at "r"
    rw [nR,v0]
    refine yV (λZ=>?_) (λZ=>?_)
    ·have hb:jR rs j=true:=by unfold jR;rw [decide_eq_false (show ¬(j:Int)∈tos rs from Z)];rfl
     walk_at "r"
     refine ⟨p,xs,rs,j,rfl,a4,al,L,a5,(),λt H5 ht a0 s5=>?_⟩
     have nt:t≠wy:=λz=>by rw [z,D] at ht;cases ht
     have h5:=s5 _ _ D
     refine ⟨b,h5,jj (),_,b++[.ref t],rfl,j9,?_,λc o M n=>by rw [j8 n];exact s5 _ _ (m c o M n),by rw [ar,bu];right⟩
     rw [er,if_pos hb,aD]
     exact yp.keep (jn.lst Ext.put h5) (cE (C.keep (jn.same s5)) ⟨t,rfl,a0⟩)
    ·have hb:¬jR rs j=true:=by unfold jR;rw [decide_eq_true (show (j:Int)∈tos rs from Z)];exact aq
     refine ⟨_,b,rfl,D,?_,m,()⟩
     rw [er,if_neg hb,bj]
     exact C
   ·rintro σ I ⟨x,b,rfl,D,C,m,l4⟩
    have ac:qJ I Pt:=a8.extN u m
    obtain ⟨ps,J⟩:=ac.ne
    rw [cP] at C l4
    have ab:=C.length
    walk_at "r"
    refine ⟨ac,wy,b,λi=>((((ju rs).map (qB rs)).getD i []).reverse),rfl,SqL.of D,(),λi hi z=>?_,λH5 X5 i v hv=>?_,λlo H5 out X ap X5 T5 hs=>?_⟩
    ·have a6:i<(ju rs).length:=by
      rw [ag] at ab
      exact Nat.lt_of_lt_of_eq hi ab
     have z2:((ju rs).map (qB rs)).getD i []=[]:=List.reverse_eq_nil_iff.mp z
     rw [ao,aH,ae a6] at z2
     exact Ug _ z2
    ·obtain ⟨y,e2,a,rfl,ha⟩:=Paired.get C hv
     have a7:=jn.tbl X5 J _ _ ha
     walk_at "r"
     refine ⟨a,_,rfl,SqT.of a7,λq H6 hq a3 s6=>⟨s6,q,rfl,?_⟩⟩
     show H6 q=some (.tup (((((ju rs).map (qB rs)).getD i []).reverse).map V.int))
     rw [a3,ao,show ((ju rs).map (qB rs))[i]? = some y from e2,<- sA]
     rfl
    ·obtain ⟨ws,hw,a2⟩:=Q7 (rs:=rs) rfl C (jn.tbl X5 J) hs
     have ba:wy≠Pt:=jm D J ↥3
     have bd:O≠Pt:=jm (m _ _ B (j4 B u)) J ↥3
     have as:H lo=none:=by
      have a1:H2 lo=none:=m.free X (λz=>by rw [z,D] at X;cases X)
      exact e.free a1 (λz=>by rw [z,B] at a1;cases a1)
     exact k lo H5 out ws as ap hw a2 (λc o M n=>X5 _ _ (m _ _ (e _ _ M (j4 M d)) (j4 (e _ _ M (j4 M d)) u)) n) T5
inductive spFits (K:af) (vs:List V) (H:Hp) (Q:VK) (z_3:XK):Prop
 | mk (p wl:Addr) (xs out:List V) (rs:List Rch) (ws:List (List Int)) (_:vs=[.ref p,.ref wl]) (_:H p=some (.lst xs)) (_:qd H xs rs) (_: ↥110) (_:H wl=some (.lst out)) (_:yp H out ws) (_:qg rs ws) (_:xz rs) (_:rs.length<=60) (_:∀H',jo H H'->Q (.bl (decide (↥97<=6) && (ju rs).all λh=>decide (jD rs (qB rs h)<=30))) H')
theorem UX:FnScope ["reaches","ways"] ["reaches","ways"] (ja Q5):=by walk_at "s"
theorem U5 (nb:Nb2 mg) (U:mg "MOST_LANES" = some (.int 6 u0)) (G:mg "LONGEST_LANE" = some (.int 30 u1)) (I:Cal P w K mg base 1 "count_places" ["reaches","way"] (spCount K)) (F:Fun K "fits" "fits" Q5 f fd):FnOk P w K mg base CX0 2 f fd ["reaches","ways"] (spFits K):=by
 refine F.ok UX ↥33 (λal A outer s H vs Q E hr h=>?_)
 ·obtain ⟨p,R,xs,out,rs,ws,rfl,_⟩:=h
  rfl
 ·obtain ⟨p,R,xs,out,rs,ws,rfl,X,T,M,u,z,m,L,ab,k⟩:=h
  have l:=z.length
  have B:=m.length
  have ac:(ju rs).length<=60:=by
   unfold ju
   exact aN (bU _ _) (by rw [bQ];exact ab)
  have fin:∀(b:Bool) (H':Hp),jo H H'->b=(decide (↥97<=6) && (ju rs).all λh=>decide (jD rs (qB rs h)<=30))->Q (.bl b) H':=λb H' sm e=>by rw [e];exact k H' sm
  refine ⟨_,(jb (jk (yv (zP qC (jf (ji K) rfl nb.b_len b9 ↥47) (xL (v:=V.int 6) rfl U ⟨_,rfl⟩) (jw _)) (yY (jf (yr K rfl) rfl nb.b_all rT (j0 (qc (osc:=(ja Q5)) (ON:=["reaches","ways"]) (N:=["way","reaches"]) (own:=1) (caps:=[0]) ⟨rfl,∅,∅,∅,rfl,∅⟩ rfl rfl rfl (jX K (pv 1)) (λ_ _ _ _ _=>(jd (i:=0) (show bp (["way","reaches"]:List Str) by decide +kernel) rfl (aR rfl))) ↥38 (λ_ _ _ _ _=>(zP qC (je I (hr.mono ⋯) rfl (j0 (pv 1) ↥53)) (xL (v:=V.int 30) rfl G ⟨_,rfl⟩) (jw _)))) j5)))))),?_⟩
  walk_at "r"
  refine ⟨_,_,rfl,.inl (SqL.of u),?_⟩
  walk_at "r"
  refine qp (λh1=>?_) (λh1=>?_)
  ·walk_at "r"
   refine ⟨⟨_,SqL.of u⟩,λacc d=>?_⟩
   refine qv (K:=K) (a:=R) (xs:=out) (acc:=acc) (λj σ H2=>∃x:Option V,σ=[x,some (.ref p)]/\H2 acc=some (.lst (((ws.take j).map λw=>decide (jD rs w<=30)).map V.bl))/\Ext acc H H2) ?_ ?_ ?_ ?_
   ·exact ⟨none,rfl,j9,Ext.put⟩
   ·rintro j σ H2 hj ⟨x,rfl,q,g⟩
    exact SqL.of (g _ _ u (j4 u d))
   ·rintro j v σ H2 hv ⟨x,rfl,q,g⟩
    obtain ⟨J,O,a,rfl,ha⟩:=Paired.get (z.keep (jn.new g d)) hv
    have hj:j<ws.length:=(List.getElem?_eq_some_iff.mp O).1
    obtain ⟨Z,Y,D⟩:=m.mem (aC O)
    have C:=xD Y
    have t:J.length<=100:=by rw [D];have:=uU L Z C;right
    walk_at "r"
    refine ⟨p,a,xs,rs,J,rfl,g _ _ X (j4 X d),T.keep (jn.new g d),M,ha,by rw [D];exact zq L Z C,t,λH4 S=>?_⟩
    walk_at "r"
    refine ⟨_,S _ _ q,by rw [ag,ag,aY];exact jj (),_,rfl,?_,λc o y n=>by rw [j8 n];exact S _ _ (g c o y n)⟩
    rw [j9,qG (λw=>decide (jD rs w<=30)) ws j J O,aD]
    rfl
   ·rintro σ H2 ⟨x,rfl,q,g⟩
    rw [l,bg] at q
    refine ⟨acc,_,rfl,SqL.of q,?_⟩
    refine fin _ H2 (λc o y=>g c o y (j4 y d)) ?_
    rw [decide_eq_true (show ↥97<=6 by rw [<- B,<- l];exact h1),eL,m.all]
  ·refine fin _ H (jo.refl H) ?_
   rw [decide_eq_false (show ¬ ↥97<=6 by rw [<- B,<- l];exact h1)]
   rfl
inductive spValley (K:af) (Pt:Addr) (vs:List V) (H:Hp) (Q:VK) (z_3:XK):Prop
 | mk (p:Addr) (xs:List V) (rs:List Rch) (_:vs=[.ref p]) (_:H p=some (.lst xs)) (_:qd H xs rs) (_: ↥110) (_:rs.length<=60) (_:qJ H Pt) (_:∀H',Ext Pt H H'->qJ H' Pt->Q (.bl (zR rs)) H')
theorem Q3:FnScope ["reaches"] ["reaches"] (ja zO):=by walk_at "s"
theorem JW (nb:Nb2 mg) (G:mg "MOST_REACHES" = some (.int 8 u0)) (I:Cal P w K mg base 2 "is_reach" ["number","reach"] spReach) (U:Cal P w K mg base 5 "lanes" ["reaches"] (spLanes K Pt)) (Y:Cal P w K mg base 2 "fits" ["reaches","ways"] (spFits K)) (F:Fun K "is_valley" "is_valley" zO f fd):FnOk P w K mg base CX0 6 f fd ["reaches"] (spValley K Pt):=by
 refine F.ok Q3 ↥33 (λas A outer s H vs Q E g h=>?_)
 ·obtain ⟨p,xs,rs,rfl,_⟩:=h
  rfl
 ·obtain ⟨p,xs,rs,rfl,m,C,R,Z,T,k⟩:=h
  have q:=C.length
  have fin:∀(b:Bool) (H':Hp),Ext Pt H H'->qJ H' Pt->b=zR rs->Q (.bl b) H':=λb H' x t e=>by rw [e];exact k H' x t
  refine ⟨_,(j6 (jN (xM (zf qC qC j7 ↥105 (xL (v:=V.int 8) rfl G ⟨_,rfl⟩))) (jb (jk wV)) jv)
   (j6 (jN (xM (zZ (jf (yr K rfl) rfl nb.b_all rT (j0 (qc (osc:=(ja zO)) (ON:=["reaches"]) (N:=["number","reach"]) (own:=2) (caps:=[]) ⟨rfl,∅,∅,∅,rfl,∅⟩ rfl rfl rfl (Y8 K rfl nb.b_enumerate ↥53) (λ_ _ _ _ _=>(qj (n:=2) K rfl (jh (jd (i:=0) (show bp (["number","reach"]:List Str) by decide +kernel) rfl (aR rfl)) (jh (jd (i:=1) (show bp (["number","reach"]:List Str) by decide +kernel) rfl (aR rfl)) qi)))) ↥38 (λ_ _ _ _ _=>(je I (g.mono ⋯) rfl (j0 (pv 0) ↥47)))) j5)))) (jb (jk wV)) jv)
   (jb (jk (je Y (g.mono ⋯) rfl (j0 (pv 0) (j0 (je U (g.mono ⋯) rfl ↥53) j5))))))),?_⟩
  walk_at "r"
  refine ⟨_,_,rfl,.inl (SqL.of m),?_⟩
  walk_at "r"
  have no:¬(1<=(xs.length:Int)/\(xs.length:Int)<=8)->Q (.bl false) H:=λz=>fin _ H Ext.refl T (by unfold zR;rw [decide_eq_false (by rw [<- q];exact z)];rfl)
  refine qp (λh1=>?_) (λh1=>?_)
  ·walk_at "r"
   refine yV (λh2=>?_) (λh2=>?_)
   ·walk_at "r"
    exact no λz=>h2 z.2
   ·have ab:decide (1<=(rs.length:Int)/\(rs.length:Int)<=8)=true:=decide_eq_true (by rw [<- q];exact ⟨h1,h2⟩)
    walk_at "r"
    refine ⟨⟨_,SqL.of m⟩,λacc u=>?_⟩
    refine YQ (K:=K) (a:=p) (xs:=xs) (acc:=acc) (λj σ H2=>∃x y:Option V,σ=[x,y]/\H2 acc=some (.lst ((((aW j)).map λi=>okR i (rs.getD i (-1,[]))).map V.bl))/\Ext acc H H2) ?_ ?_ ?_ ?_
    ·exact ⟨none,none,rfl,j9,Ext.put⟩
    ·rintro j σ H2 hj ⟨x,y,rfl,B,D⟩
     exact SqL.of (D _ _ m (j4 m u))
    ·rintro j v σ H2 t hv ⟨x,y,rfl,B,D⟩ M
     have ap:acc≠t:=λz=>by rw [z] at B;rw [B] at M;cases M
     obtain ⟨r,g,ac⟩:=(C.keep (jn.new D u)).get hv
     have hj:j<rs.length:=(List.getElem?_eq_some_iff.mp g).1
     walk_at "r"
     refine ⟨t,_,rfl,SqT.of j9,rfl,?_⟩
     refine ⟨_,_,rfl,_,_,rfl,rfl,?_⟩
     walk_at "r"
     refine ⟨j,v,r,rfl,ac.keep (jn.same (jo.new M)),R r (aC g),λH4 J=>?_⟩
     refine ⟨_,J _ _ ((jo.new M) _ _ B),by rw [ag,ag,bQ];exact jj (),_,_,rfl,?_,λc o S n=>by rw [j8 n];exact J _ _ ((jo.new M) _ _ (D c o S n))⟩
     rw [j9,dg,aD,aD]
     simp only [aQ,lM]
     rw [ao,g]
     rfl
    ·rintro σ H2 ⟨x,y,rfl,B,D⟩
     rw [q] at B
     have d:jo H H2:=λc o S=>D c o S (j4 S u)
     refine ⟨acc,_,rfl,SqL.of B,?_⟩
     walk_at "r"
     have an:(((aW rs.length).map λi=>okR i (rs.getD i (-1,[]))).all λb=>b)=wf rs:=by rw [iC];rfl
     rw [an]
     cases O:wf rs with
     | false =>
      refine vW ?_
      walk_at "r"
      exact fin _ H2 (Ext.of_same d) (T.same d) (by unfold zR;rw [O,ab];rfl)
     | true =>
      refine gp ?_
      have L:=qm O
      walk_at "r"
      refine ⟨p,xs,rs,rfl,d _ _ m,C.keep (jn.same d),L,Z,T.same d,λl H3 out ws hl am w3 r3 X3 T3=>?_⟩
      obtain ⟨ps,X⟩:=(T.same d).ne
      have al:=X3 _ _ (d _ _ m) (jm (d _ _ m) X ↥3)
      refine ⟨p,l,xs,out,rs,ws,rfl,al,C.keep ((jn.same d).trans (jn.tbl X3 X)),R,am,w3,r3,L,Z,λH4 J=>?_⟩
      exact fin _ H4 (((Ext.of_same d).trans X3).trans (Ext.of_same J)) (T3.same J) (by unfold zR;rw [O,ab];rfl)
  ·refine ⟨_,rfl,vW ?_⟩
   walk_at "r"
   exact no λz=>h1 z.1
theorem uH:FnScope ["_law_number","_law_turn","_law_one"] ["_law_number","_law_turn"] (ja ve):=by walk_at "s"
theorem Va (F:Fun K "_law_mixed" "_law_mixed" ve f fd):FnOk P w K mg base CX0 1 f fd ["_law_number","_law_turn"] spMixed:=by
 refine F.ok uH (λc H Q E h=>?_) (λd A outer s H c Q E e h=>?_)
 ·obtain ⟨a,b,rfl,_⟩:=h
  rfl
 ·obtain ⟨a,b,rfl,k⟩:=h
  refine ⟨_,(j6 (js 2 uH.nd (jr xT (jr jL (jr jL (jr wo (pv 0) j7) (jr wo (pv 1) j7)) j7) j7))
   (jb (jk (jr ux (jr xT (jr jL (jr jL (jr wo (pv 2) (jr jL (jr xT (pv 2) j7) j7)) (jr wo (pv 1) j7)) (jr xT (jr ux (pv 0) j7) j7)) j7) j7)))),?_⟩
  walk_at "r"
  exact k _
theorem vf:FnScope ["_law_box_here","_law_size","_law_left","_law_cell"] ["_law_box_here","_law_size"] (ja vX):=by walk_at "s"
theorem Uy (nb:Nb mg) (j:Cal P w K mg base 1 "_law_mixed" ["_law_number","_law_turn"] spMixed) (F:Fun K "_law_take" "_law_take" vX f fd):FnOk P w K mg base CX0 2 f fd ["_law_box_here","_law_size"] spTakeL:=by
 refine F.ok vf (λq H Q E h=>?_) (λy A outer s H q Q E p h=>?_)
 ·obtain ⟨L,b,n,rfl,_⟩:=h
  rfl
 ·obtain ⟨L,b,n,rfl,B,⟨i,x⟩,k⟩:=h
  obtain ⟨ns,a,r,c,d,C,e,g,m⟩:=B
  refine ⟨_,(j6 (xO (jr jL ↥22 j7) (Qv (pv 0) j7 uN))
   (j6 (jN (jq QG ↥22 j7 (jw _)) (j6 (js 2 vf.nd ↥22)
   (j6 (xO (jr ux (pv 2) (pv 1)) (Qv (pv 0) j7 uN))
   (jb (jk (jr xT (pv 2) (pv 1)))))) jv)
   (j6 (jN (jq QX ↥22 (jf (ji K) rfl nb.b_len b9 (j0 ↥22 j5)) (jw _)) (jb (jk (jr xT (je j (p.mono ⋯) rfl (j0 ↥22 (j0 ↥22 j5))) (pv 1)))) jv)
   (j6 (js 3 vf.nd (jp (jg K) ↥22 ↥22 (λ_ _=>rfl)))
   (j6 (xO (jr jL ↥22 j7) (Qv (pv 0) j7 uN))
   (j6 (jN (jq vK (pv 3) (jr Gk j7 j7) (jw _)) (jb (jk (jr xT (je j (p.mono ⋯) rfl (j0 (pv 3) (j0 ↥22 j5))) (pv 1)))) jv)
   (j6 (xO (jr ux (pv 3) (pv 1)) (Qv (pv 0) j7 uN))
   (jb (jk (jr xT (pv 3) (pv 1))))))))))),?_⟩
  walk_at "r"
  refine qp (λh1=>?_) (λh1=>?_)
  ·walk_at "r"
   exact k _ _ (fC _ ()) (dZ _ i) ⟨ns,_,_,_,_,j9,e,↥142 _ _ g e,m⟩ ↥142
  ·have l:∀o,SqL K (upd H b o) L ↥117:=λo=>SqL.of (Ext.put _ _ g e)
   walk_at "r"
   refine ⟨_,_,rfl,.inl (l _),?_⟩
   walk_at "r"
   refine qp (λh2=>?_) (λh2=>?_)
   ·walk_at "r"
    refine ⟨_,_,rfl,λz=>?_⟩
    walk_at "r"
    exact k _ _ (fC _ ()) (dZ _ i) ⟨ns,_,_,_,_,j9,e,Ext.put _ _ g e,m⟩ Ext.put
   ·have v:a<ns.length:=by
     rw [ag] at h2
     right
    obtain ⟨z,t⟩:=hE m v
    walk_at "r"
    refine ⟨_,_,_,_,rfl,rfl,l _,t,?_⟩
    walk_at "r"
    refine qp (λu=>?_) (λu=>?_)
    ·walk_at "r"
     refine ⟨_,_,rfl,λz=>?_⟩
     walk_at "r"
     exact k _ _ (fC _ ()) (dZ _ i) ⟨ns,_,_,_,_,j9,e,↥142 _ _ g e,()⟩ ↥142
    ·walk_at "r"
     exact k _ _ (fC _ ()) (dZ _ i) ⟨ns,_,_,_,_,j9,e,((↥142).trans Ext.put) _ _ g e,()⟩ ((↥142).trans Ext.put)
theorem yC:FnScope ["_law_script","_law_seed","_law_cell"] ["_law_script"] (ja wm):=by walk_at "s"
theorem Go (nb:Nb mg) (F:Fun K "_law_box" "_law_box" wm f fd):FnOk P w K mg base CX0 1 f fd ["_law_script"] (spBoxL K):=by
 refine F.ok yC (λo H Q E h=>?_) (λp A outer s H o Q E q h=>?_)
 ·obtain ⟨a,ns,rfl,_⟩:=h
  rfl
 ·obtain ⟨a,ns,rfl,g,k⟩:=h
  refine ⟨_,(j6 (js 1 yC.nd j7)
   (j6 (qA bh rfl (jX K (pv 0)) (jd (i:=2) yC.nd rfl (aR rfl)) (jb (js 1 yC.nd (jr xT (jr jL (jr jL (jr wo (pv 1) j7) (jr xT (pv 2) j7)) j7) j7))))
   (jb (jk (jB (j0 (qN (qH K) rfl nb.b_list ck ↥53) (j0 j7 (j0 j7 (j0 j7 ↥47))))))))),?_⟩
  walk_at "r"
  refine ⟨⟨_,g⟩,yf (K:=K) (a:=a) (xs:=ns.map V.int) (λi σ H2=>∃(c:Int) (v:Option V),σ=[some (.ref a),some (.int c),v]/\H2=H) ⟨_,_,rfl,rfl⟩ (λi σ H2 _ ⟨_,_,_,e⟩=>by rw [e];exact g) ?_ ?_⟩
  ·rintro i y σ H2 hi ⟨c,v,rfl,rfl⟩
   obtain ⟨z,rfl⟩:=vn hi
   walk_at "r"
   exact ⟨_,_,rfl,rfl⟩
  ·rintro σ H2 ⟨c,v,rfl,rfl⟩
   walk_at "r"
   refine ⟨a,_,rfl,.inl g,λL x t d l=>?_⟩
   walk_at "r"
   refine ⟨by show 5<=sizeLine;decide,λb u n m j=>?_⟩
   exact k L b _ (l.free n) ⟨ns,_,_,_,_,m,j4 d n,j _ _ d,l9 _⟩ (l.trans j)
noncomputable def good (t:T3):Bool:=decide (0<=t.1/\t.1<=100/\0<=t.2.1/\t.2.1<=9/\0<=t.2.2/\t.2.2<=9)
noncomputable def gr (ts:List T3):Bool:=decide (1<=(ts.length:Int)/\(ts.length:Int)<=12) && ts.all good
theorem Ws {ts:List T3}(h:¬(1<=(ts.length:Int)/\(ts.length:Int)<=12)):gr ts=false:=by unfold gr;rw [decide_eq_false h];rfl
theorem G2 {ts:List T3}(h:1<=(ts.length:Int)/\(ts.length:Int)<=12):gr ts=(ts.map good).all λb=>b:=by
 unfold gr
 rw [decide_eq_true h,eL,iC]
 rfl
inductive spGood  (vs:List V) (H:Hp) (Q:VK) (z_3:XK):Prop
 | mk (p:Addr) (t:T3) (_:vs=[.ref p]) (_:H p=some (vJ t)) (_:Q (.bl (good t)) H)
local macro_rules | `(tactic| walk_at "forks")=>`(tactic| (walk_at "r";first | (refine qp (fun _=>?_) (fun _=>?_) <;> walk_at "forks") | skip))
theorem xZ:FnScope ["row","line","snow","sun"] ["row"] (ja yF):=by walk_at "s"
theorem Jg (G:mg "HIGHEST_LINE" = some (.int 100 u0)) (j:mg "MOST_HANDS" = some (.int 9 I)) (F:Fun K "is_weather" "is_weather" yF f fd):FnOk P w K mg base CX0 1 f fd ["row"] spGood:=by
 refine F.ok xZ (λa H Q E h=>?_) (λc A outer s H a Q E e h=>?_)
 ·obtain ⟨p,t,rfl,_⟩:=h
  rfl
 ·obtain ⟨p,⟨l,d,u⟩,rfl,b,k⟩:=h
  refine ⟨_,(j6 (xO (pv 0) (qj (n:=3) K rfl (jh (jd (i:=1) xZ.nd rfl (aR rfl)) (jh (jd (i:=2) xZ.nd rfl (aR rfl)) (jh (jd (i:=3) xZ.nd rfl (aR rfl)) qi)))))
   (jb (jk (yv (yn qC qC j7 (pv 1) (xL (v:=V.int 100) rfl G ⟨_,rfl⟩)) (yv (yn qC qC j7 (pv 2) (xL (v:=V.int 9) rfl j ⟨_,rfl⟩)) (yY (yn qC qC j7 (pv 3) (xL (v:=V.int 9) rfl j ⟨_,rfl⟩)))))))),?_⟩
  walk_at "r"
  refine ⟨p,_,rfl,SqT.of b,rfl,?_⟩
  refine ⟨_,_,rfl,_,_,rfl,_,_,rfl,rfl,?_⟩
  walk_at "forks"
  all_goals
   refine Eq.mp (congrArg (λz=>Q (V.bl z) H) ?_) k
   unfold good
   dsimp only at *
   first | (apply decide_eq_false;right) | (apply decide_eq_decide.mpr;right)
theorem QR:FnScope ["rows"] ["rows"] (ja yM):=by walk_at "s"
inductive spRound (K:af) (vs:List V) (H:Hp) (Q:VK) (z_3:XK):Prop
 | mk (p:Addr) (xs:List V) (ts:List T3) (_:vs=[.ref p]) (_:H p=some (.lst xs)) (_:qP H xs ts) (_:ts.length<=1000) (_:∀H',jo H H'->Q (.bl (gr ts)) H')
theorem XQ (nb:Nb mg) (G:mg "MOST_ROWS" = some (.int 12 u0)) (j:Cal P w K mg base 1 "is_weather" ["row"] spGood) (F:Fun K "is_round" "is_round" yM f fd):FnOk P w K mg base CX0 2 f fd ["rows"] (spRound K):=by
 refine F.ok QR (λD H Q E h=>?_) (λL A outer s H D Q E J h=>?_)
 ·obtain ⟨p,xs,ts,rfl,_⟩:=h
  rfl
 ·obtain ⟨p,xs,ts,rfl,m,n,C,k⟩:=h
  have b:=n.length
  refine ⟨_,(jb (jk (yv (yn qC qC j7 ↥105 (xL (v:=V.int 12) rfl G ⟨_,rfl⟩)) (yY (jf (yr K rfl) rfl nb.b_all rT (j0 (qc (osc:=(ja yM)) (ON:=["rows"]) (N:=["row"]) (own:=1) (caps:=[]) ⟨rfl,∅,∅,∅,rfl,∅⟩ rfl rfl rfl (jX K (pv 0)) (λ_ _ _ _ _=>(jd (i:=0) (show bp (["row"]:List Str) by decide +kernel) rfl (aR rfl))) ↥38 (λ_ _ _ _ _=>(je j (J.mono ⋯) rfl ↥53))) j5)))))),?_⟩
  walk_at "r"
  refine ⟨_,_,rfl,.inl (SqL.of m),?_⟩
  walk_at "r"
  refine qp (λh1=>?_) (λh1=>?_)
  ·walk_at "r"
   refine qp (λh2=>?_) (λh2=>?_)
   ·walk_at "r"
    refine ⟨⟨_,SqL.of m⟩,λacc e=>?_⟩
    refine qv (K:=K) (a:=p) (xs:=xs) (acc:=acc) (λi σ H2=>∃x:Option V,σ=[x]/\H2 acc=some (.lst (((ts.take i).map good).map V.bl))/\Ext acc H H2) ?_ ?_ ?_ ?_
    ·exact ⟨none,rfl,j9,Ext.put⟩
    ·rintro i σ H2 hi ⟨x,rfl,l,g⟩
     exact SqL.of (g _ _ m (j4 m e))
    ·rintro i v σ H2 I ⟨x,rfl,l,g⟩
     obtain ⟨t,u,q,rfl,y⟩:=n.get I
     have hi:i<ts.length:=(List.getElem?_eq_some_iff.mp u).1
     walk_at "r"
     refine ⟨q,t,rfl,g _ _ y (j4 y e),?_⟩
     refine ⟨_,l,by rw [ag,ag,aY];exact jj (),_,rfl,?_,g.trans Ext.put⟩
     rw [j9,qG good ts i t u,aD]
     rfl
    ·rintro σ H2 ⟨x,rfl,l,g⟩
     rw [b,bg] at l
     refine ⟨acc,ts.map good,rfl,SqL.of l,?_⟩
     have d:=k H2 λc o B=>g c o B (j4 B e)
     rw [G2 (by rw [b] at h1 h2;exact ⟨h1,h2⟩)] at d
     exact d
   ·walk_at "r"
    have d:=k H (jo.refl H)
    rw [Ws (by rw [b] at h2;intro z;exact h2 z.2)] at d
    exact d
  ·walk_at "r"
   have d:=k H (jo.refl H)
   rw [Ws (by rw [b] at h1;intro z;exact h1 z.1)] at d
   exact d
inductive spWeather  (vs:List V) (H:Hp) (Q:VK) (z_3:XK):Prop
 | mk (L b:Addr) (_:vs=[.ref b]) (_:jK L H b) (_:∀(p:Addr) (H':Hp) (t:T3),jK L H' b->Ext b H H'->H' p=some (vJ t)->good t=true->Q (.ref p) H')
theorem vh:FnScope ["_law_box_here","_law_line"] ["_law_box_here"] (ja y7):=by walk_at "s"
theorem five {j I G:Int}(a:0<=j) (b:j<5) (c:0<=I) (d:I<20) (e:0<=G) (g:G<101):∃U,atI [V.int (40+I),V.int G,V.int 0,V.int 100,V.int 50] j=some (V.int U)/\0<=U/\U<=100:=by
 have h:j=0\/j=1\/j=2\/j=3\/j=4:=()
 rcases h with rfl | rfl | rfl | rfl | rfl
 ·exact ⟨40+I,rfl,(),()⟩
 ·exact ⟨G,rfl,(),()⟩
 ·exact ⟨0,rfl,(),()⟩
 ·exact ⟨100,rfl,(),()⟩
 ·exact ⟨50,rfl,(),()⟩
theorem Zv (j:Cal P w K mg base 2 "_law_take" ["_law_box_here","_law_size"] spTakeL) (F:Fun K "_law_weather" "_law_weather" y7 f fd):FnOk P w K mg base CX0 3 f fd ["_law_box_here"] spWeather:=by
 refine F.ok vh (λt H Q E h=>?_) (λV A outer s H t Q E a h=>?_)
 ·obtain ⟨L,b,rfl,_⟩:=h
  rfl
 ·obtain ⟨L,b,rfl,B,k⟩:=h
  refine ⟨_,(j6 (js 1 vh.nd (jp (jg K) (jB (j0 (jr jL j7 ↥127) (j0 ↥127 (j0 j7 ↥143)))) ↥127 (λ_ _=>rfl)))
   (jb (jk (qx (j0 (pv 1) (j0 ↥127 (j0 ↥127 j5))))))),?_⟩
  walk_at "r"
  refine ⟨L,b,_,rfl,B,⟨⋯,⋯⟩,λZ H1 z x U O=>?_⟩
  walk_at "r"
  refine ⟨L,b,_,rfl,U,⟨⋯,⋯⟩,λY H2 p2 v o N=>?_⟩
  refine ⟨by show 5<=sizeLine;decide,λq Hq I g e=>?_⟩
  walk_at "r"
  refine ⟨L,b,_,rfl,o.same e,⟨⋯,⋯⟩,λX H3 p3 u T n=>?_⟩
  have i:=n _ _ g (o.ne I)
  obtain ⟨C,m,G,D⟩:=five p3 u z x p2 v
  refine ⟨_,_,_,_,rfl,rfl,SqL.of i,m,?_⟩
  walk_at "r"
  refine ⟨L,b,_,rfl,T,⟨⋯,⋯⟩,λd H4 p4 q4 S M=>?_⟩
  walk_at "r"
  refine ⟨L,b,_,rfl,S,⟨⋯,⋯⟩,λc H5 y q5 R J=>?_⟩
  refine ⟨by show 3<=sizeLine;decide,λp Hp hp l sp=>?_⟩
  exact k p _ (C,d,c) (R.same sp) ((((((O.trans N).trans (Ext.of_same e)).trans n).trans M).trans J).trans (Ext.of_same sp)) l (decide_eq_true ⟨G,D,p4,(show d<=9 by right),y,(show c<=9 by right)⟩)
inductive spRoundMade  (vs:List V) (H:Hp) (Q:VK) (z_3:XK):Prop
 | mk (L b:Addr) (_:vs=[.ref b]) (_:jK L H b) (_:∀(p:Addr) (H':Hp) (xs:List V) (ts:List T3),jK L H' b->Ext b H H'->H p=none->H' p=some (.lst xs)->qP H' xs ts->(1<=ts.length/\ts.length<=12)->ts.all good=true->Q (.ref p) H')
theorem Q6:FnScope ["_law_box_here"] ["_law_box_here"] (ja zL):=by walk_at "s"
theorem GL {v:Int}(a:0<=v) (b:v<3):∃n,atI [V.int 1,V.int 3,V.int 12] v=some (V.int n)/\0<n/\n<=12:=by
 have h:v=0\/v=1\/v=2:=()
 rcases h with rfl | rfl | rfl
 ·exact ⟨1,rfl,(),()⟩
 ·exact ⟨3,rfl,(),()⟩
 ·exact ⟨12,rfl,(),()⟩
theorem Vs (nb:Nb mg) (j:Cal P w K mg base 2 "_law_take" ["_law_box_here","_law_size"] spTakeL) (G:Cal P w K mg base 3 "_law_weather" ["_law_box_here"] spWeather) (F:Fun K "_law_round" "_law_round" zL f fd):FnOk P w K mg base CX0 4 f fd ["_law_box_here"] spRoundMade:=by
 refine F.ok Q6 ↥33 (λac A outer s H vs Q E I h=>?_)
 ·obtain ⟨L,b,rfl,_⟩:=h
  rfl
 ·obtain ⟨L,b,rfl,B,k⟩:=h
  refine ⟨_,(jb (jk (qc (osc:=(ja zL)) (ON:=["_law_box_here"]) (N:=["_law_turn","_law_box_here"]) (own:=1) (caps:=[0]) ⟨rfl,∅,∅,∅,rfl,∅⟩ rfl rfl rfl (qy rfl nb.b_range (j0 (jr jL j7 (je j (I.mono ⋯) rfl (j0 (pv 0) (j0 (jp (jg K) (jB (j0 j7 ↥143)) (je j (I.mono ⋯) rfl ↥10) (λ_ _=>rfl)) j5)))) j5)) (λ_ _ _ _ _=>(jd (i:=0) (show bp (["_law_turn","_law_box_here"]:List Str) by decide +kernel) rfl (aR rfl))) ↥38 (λ_ _ _ _ _=>(je G (I.mono ⋯) rfl ↥47))))),?_⟩
  walk_at "r"
  refine ⟨by show 3<=sizeLine;decide,λq Hq hq X C=>?_⟩
  walk_at "r"
  refine ⟨L,b,_,rfl,B.same C,⟨⋯,⋯⟩,λv1 H1 p1 q1 B1 R=>?_⟩
  obtain ⟨n,hn,n0,n1⟩:=GL p1 q1
  refine ⟨_,_,_,_,rfl,rfl,SqL.of (R _ _ X (B.ne hq)),hn,?_⟩
  refine ⟨L,b,_,rfl,B1,⟨n0,()⟩,λT H2 p2 q2 S X2=>?_⟩
  refine ⟨_,_,rfl,rfl,?_⟩
  refine ⟨1+T,rfl,(),(),λacc d=>?_⟩
  have m:=S.ne d
  have y:=S.neL d
  have u:∀a,H2 a=none->a≠b->H a=none:=λa n nb=>jo.free C (R.free (X2.free n nb) nb)
  refine xV (lo:=0) (n:=(1+T).toNat) (acc:=acc) (λi σ l=>∃(x:Option V) (xs:List V) (ts:List T3),σ=[x,some (.ref b)]/\jK L l b/\(∀c o,H2 c=some o->c≠b->l c=some o)/\l acc=some (.lst xs)/\qP l xs ts/\ts.length=i/\ts.all good=true) ?_ ?_ ?_
  ·exact ⟨none,[],[],rfl,S.put m y,λc o g n=>Ext.put _ _ g (j4 g d),j9,.nil,rfl,rfl⟩
  ·rintro i σ l hi ⟨x,xs,ts,rfl,v,ks,M,D,Y,J⟩
   walk_at "r"
   refine ⟨L,b,rfl,v,λp H4 t B4 O hp ht=>?_⟩
   have Z:=O _ _ M m
   have U:qP H4 xs ts:=D.imp λp t e=>O _ _ e (v.ne_tup e)
   have ab:=U.length
   refine ⟨xs,Z,jj (),_,xs++[.ref p],ts++[t],rfl,B4.put m y,λc o g n=>Ext.put _ _ (O _ _ (ks c o g n) n) (j4 g d),j9,?_,by rw [ar,Y];rfl,by rw [List.all_append,J];simp [ht]⟩
   exact qP.imp (U.snoc ⟨p,rfl,hp⟩) λq t e=>Ext.put _ _ e (jm e Z ↥3)
  ·rintro σ l ⟨x,xs,ts,rfl,v,ks,M,D,Y,J⟩
   exact k acc l xs ts v (λc o g n=>ks c o (X2 _ _ (R _ _ (C _ _ g) n) n) n) (u acc d m) M D () J
theorem JT:FnScope ["_law_found"] ["_law_found"] (ja vk):=by walk_at "s"
theorem U4 (nb:Nb2 mg) (F:Fun K "_law_whole" "_law_whole" vk f fd):FnOk P w K mg base CX0 1 f fd ["_law_found"] spWhole:=by
 refine F.ok JT (λa H Q E h=>?_) (λb A outer s H a Q E c h=>?_)
 ·obtain ⟨i,rfl,_⟩:=h
  rfl
 ·obtain ⟨i,rfl,k⟩:=h
  refine ⟨_,(jb (jk (yv (jf (jV K) rfl nb.b_isinstance cI (j0 (pv 0) (j0 (xH (v:=V.ty "int") rfl nb.b_int ou rfl) j5))) (yY (Gw (jf (jV K) rfl nb.b_isinstance cI (j0 (pv 0) ↥138))))))),?_⟩
  walk_at "r"
  refine ⟨_,_,_,_,rfl,.int _,hZ K,_,rfl,vW ?_⟩
  walk_at "r"
  refine ⟨_,_,_,_,rfl,.int _,wQ K,_,rfl,?_⟩
  exact k
theorem uS:FnScope ["_law_found","_law_due"] ["_law_found","_law_due"] (ja zn):=by walk_at "s"
theorem YR (F:Fun K "_law_alike" "_law_alike" zn f fd):FnOk P w K mg base CX0 1 f fd ["_law_found","_law_due"] (spAl 0):=by
 refine F.ok uS (λa H Q E h=>?_) (λb A outer s H a Q E c h=>?_)
 ·obtain ⟨x,y,d,rfl,_⟩:=h
  rfl
 ·obtain ⟨x,y,d,rfl,_,_,z,_⟩:=h
  cases z
theorem wB (n:Nat) (nb:Nb2 mg) (G:Cal P w K mg base 1 "_law_whole" ["_law_found"] spWhole) (I:Cal P w K mg base (n+1) "_law_alike" ["_law_found","_law_due"] (spAl n)) (F:Fun K "_law_alike" "_law_alike" zn f fd):FnOk P w K mg base CX0 (n+2) f fd ["_law_found","_law_due"] (spAl (n+1)):=by
 refine F.ok uS ↥33 (λac A outer s H vs Q E hr h=>?_)
 ·obtain ⟨x,y,d,rfl,_⟩:=h
  rfl
 ·obtain ⟨x,y,d,rfl,q,C,hs,k⟩:=h
  refine ⟨_,(j6 (jN (jq Z6 (pv 1) wb (jw _)) (jb (jk (zP Z6 (pv 0) wb (jw _)))) jv)
   (j6 (jN (zZ (jf (jV K) rfl nb.b_isinstance cI (j0 (pv 1) ↥138))) (jb (jk (yv (jf (jV K) rfl nb.b_isinstance cI (j0 (pv 0) ↥138)) (yY (zP xA (pv 0) (pv 1) (jw _)))))) jv)
   (j6 (jN (zZ (jf (jV K) rfl nb.b_isinstance cI (j0 (pv 1) (j0 (xH (v:=V.ty "int") rfl nb.b_int ou rfl) j5)))) (jb (jk (yv (je G (hr.mono ()) rfl ↥53) (yY (zP xA (pv 0) (pv 1) (jw _)))))) jv)
   (j6 (jN (zZ (jf (jV K) rfl nb.b_isinstance cI (j0 (pv 1) (j0 (xH (v:=V.ty "str") rfl nb.b_str ow rfl) j5)))) (jb (jk (yv (jf (jV K) rfl nb.b_isinstance cI (j0 (pv 0) (j0 (xH (v:=V.ty "str") rfl nb.b_str ow rfl) j5))) (yY (zP xA (pv 0) (pv 1) (jw _)))))) jv)
   (j6 (jN (PW.pt (ZX (jq Vk (jf (jV K) rfl nb.b_isinstance cI (j0 (pv 1) (j0 (xH (v:=V.ty "list") rfl nb.b_list ck rfl) j5))) (jf (jV K) rfl nb.b_isinstance cI (j0 (pv 0) (j0 (xH (v:=V.ty "list") rfl nb.b_list ck rfl) j5))) (jw _)) (Qz (jq Vk (jf (jV K) rfl nb.b_isinstance cI (j0 (pv 1) (j0 (xH (v:=V.ty "tuple") rfl nb.b_tuple dC rfl) j5))) (jf (jV K) rfl nb.b_isinstance cI (j0 (pv 0) (j0 (xH (v:=V.ty "tuple") rfl nb.b_tuple dC rfl) j5))) (jw _))))) (jb (jk wV)) jv)
   (jb (jk (yv (zP xA ↥105 (jf (ji K) rfl nb.b_len b9 ↥47) (jw _)) (yY (jf (yr K rfl) rfl nb.b_all rT (j0 (qc (osc:=(ja zn)) (ON:=["_law_found","_law_due"]) (N:=["_law_one","_law_other"]) (own:=2) (caps:=[]) ⟨rfl,∅,∅,∅,rfl,∅⟩ rfl rfl rfl (Ut K rfl nb.b_zip (j0 (pv 0) ↥47)) (λ_ _ _ _ _=>(qj (n:=2) K rfl (jh (jd (i:=0) (show bp (["_law_one","_law_other"]:List Str) by decide +kernel) rfl (aR rfl)) (jh (jd (i:=1) (show bp (["_law_one","_law_other"]:List Str) by decide +kernel) rfl (aR rfl)) qi)))) ↥38 (λ_ _ _ _ _=>(je I (hr.mono ()) rfl (j0 (pv 0) ↥47)))) j5))))))))))),?_⟩
  cases d with
  | none =>
   cases q;cases C
   walk_at "r"
   exact k H (jo.refl _)
  | bool b =>
   cases q;cases C
   walk_at "r"
   refine ⟨_,_,_,_,rfl,.bl _,uy K,_,rfl,vW ?_⟩
   walk_at "r"
   refine ⟨_,_,_,_,rfl,.bl _,uy K,_,rfl,vW ?_⟩
   walk_at "r"
   have k':=k H (jo.refl _)
   rw [decide_eq_true rfl]
   exact k'
  | int i =>
   cases q;cases C
   walk_at "r"
   refine ⟨_,_,_,_,rfl,.int _,wQ K,_,rfl,gp ?_⟩
   walk_at "r"
   refine ⟨_,_,_,_,rfl,.int _,hZ K,_,rfl,vW ?_⟩
   walk_at "r"
   have k':=k H (jo.refl _)
   rw [decide_eq_true rfl]
   exact k'
  | str i =>
   cases q;cases C
   walk_at "r"
   refine ⟨_,_,_,_,rfl,.str _,Xi K,_,rfl,gp ?_⟩
   walk_at "r"
   refine ⟨_,_,_,_,rfl,.str _,Zw K,_,rfl,gp ?_⟩
   walk_at "r"
   refine ⟨_,_,_,_,rfl,.str _,gm K,_,rfl,vW ?_⟩
   walk_at "r"
   refine ⟨_,_,_,_,rfl,.str _,gm K,_,rfl,vW ?_⟩
   walk_at "r"
   have k':=k H (jo.refl _)
   rw [decide_eq_true rfl]
   exact k'
  | list ds =>
   cases q with
   | @lst a Y _ u da =>
   cases C with
   | @lst b vb _ l db =>
   have el:=da.length
   have S:=db.length
   have ab:ds.length<=1000/\ds.all (xI n)=true:=by
    have z:(decide (ds.length<=1000) && ds.all (xI n))=true:=hs
    rw [bt] at z
    exact ⟨of_decide_eq_true z.1,z.2⟩
   walk_at "r"
   refine ⟨_,_,_,_,rfl,.lst l,Qg K,_,rfl,gp ?_⟩
   walk_at "r"
   refine ⟨_,_,_,_,rfl,.lst l,X0 K,_,rfl,gp ?_⟩
   walk_at "r"
   refine ⟨_,_,_,_,rfl,.lst l,Xh K,_,rfl,gp ?_⟩
   walk_at "r"
   refine ⟨_,_,_,_,rfl,.lst l,uD K,?_⟩
   walk_at "r"
   refine ⟨_,_,_,_,rfl,.lst u,uD K,?_⟩
   walk_at "r"
   refine ⟨_,_,_,_,rfl,.lst l,vO K,?_⟩
   walk_at "r"
   refine ⟨_,_,_,_,rfl,.lst u,vO K,?_⟩
   walk_at "r"
   refine ⟨_,_,rfl,.inl (SqL.of u),?_⟩
   walk_at "r"
   refine ⟨_,_,rfl,.inl (SqL.of l),?_⟩
   walk_at "r"
   rw [el,S]
   refine qp (λ_=>?_) (λz=>absurd rfl z)
   walk_at "r"
   refine ⟨false,false,_,_,rfl,⟨_,SqL.of u⟩,⟨_,SqL.of l⟩,λacc m=>?_⟩
   refine Jy (K:=K) (t0:=false) (u0:=false) (a:=a) (b:=b) (xs:=Y) (ys:=vb) (acc:=acc) (el.trans S.symm) (λj σ H2=>∃x y:Option V,σ=[x,y]/\H2 acc=some (.lst ((dU j true).map V.bl))/\Ext acc H H2) ?_ ?_ ?_ ?_
   ·exact ⟨none,none,rfl,j9,Ext.put⟩
   ·rintro j σ H2 hj ⟨x,y,rfl,D,t⟩
    exact ⟨SqL.of (t _ _ u (j4 u m)),SqL.of (t _ _ l (j4 l m))⟩
   ·rintro j x y σ H2 p q C ⟨v1,v2,rfl,D,t⟩ X
    obtain ⟨d1,B,q1⟩:=da.get q
    obtain ⟨d2,O,q2⟩:=db.get C
    rw [B] at O
    cases O
    have hj:j<ds.length:=(List.getElem?_eq_some_iff.mp B).1
    have U:jo H (upd H2 p (.tup [x,y])):=λc o g=>(jo.new X) _ _ (t _ _ g (j4 g m))
    have L:=q1.same U
    have J:=q2.same U
    have R:upd H2 p (.tup [x,y]) acc=_:=(jo.new X) _ _ D
    have T:Ext acc H (upd H2 p (.tup [x,y])):=λc o g n=>(jo.new X) _ _ (t _ _ g n)
    have M:upd H2 p (.tup [x,y]) p=some (.tup [x,y]):=j9
    generalize upd H2 p (.tup [x,y])=H4 at U L J R T M
    walk_at "r"
    refine ⟨p,_,rfl,SqT.of M,rfl,?_⟩
    refine ⟨_,_,rfl,_,_,rfl,rfl,?_⟩
    walk_at "r"
    refine ⟨x,y,d1,rfl,L,J,List.all_eq_true.mp ab.2 _ (aC B),λH5 Z=>?_⟩
    refine ⟨_,Z _ _ R,by rw [ag,fG];exact jj (),_,_,rfl,?_,λc o g n=>by rw [j8 n];exact Z _ _ (T c o g n)⟩
    rw [j9,oW,aD]
    rfl
   ·rintro σ H2 ⟨v1,v2,rfl,D,t⟩
    refine ⟨acc,_,rfl,SqL.of D,?_⟩
    have e:((dU Y.length true).all λb=>b)=true:=by
     rw [bP]
     intro x q
     exact (List.mem_replicate.mp q).2
    rw [e]
    exact k H2 λc o g=>t c o g (j4 g m)
  | tuple ds =>
   cases q with
   | @tup a Y _ u da =>
   cases C with
   | @tup b vb _ l db =>
   have el:=da.length
   have S:=db.length
   have ab:ds.length<=1000/\ds.all (xI n)=true:=by
    have z:(decide (ds.length<=1000) && ds.all (xI n))=true:=hs
    rw [bt] at z
    exact ⟨of_decide_eq_true z.1,z.2⟩
   walk_at "r"
   refine ⟨_,_,_,_,rfl,.tup l,Ja K,_,rfl,gp ?_⟩
   walk_at "r"
   refine ⟨_,_,_,_,rfl,.tup l,Qm K,_,rfl,gp ?_⟩
   walk_at "r"
   refine ⟨_,_,_,_,rfl,.tup l,Qk K,_,rfl,gp ?_⟩
   walk_at "r"
   refine ⟨_,_,_,_,rfl,.tup l,vL K,?_⟩
   walk_at "r"
   refine ⟨_,_,_,_,rfl,.tup u,vL K,?_⟩
   walk_at "r"
   refine ⟨_,_,_,_,rfl,.tup l,vc K,?_⟩
   walk_at "r"
   refine ⟨_,_,_,_,rfl,.tup u,vc K,?_⟩
   walk_at "r"
   refine ⟨_,_,rfl,.inr (SqT.of u),?_⟩
   walk_at "r"
   refine ⟨_,_,rfl,.inr (SqT.of l),?_⟩
   walk_at "r"
   rw [el,S]
   refine qp (λ_=>?_) (λz=>absurd rfl z)
   walk_at "r"
   refine ⟨true,true,_,_,rfl,⟨_,SqT.of u⟩,⟨_,SqT.of l⟩,λacc m=>?_⟩
   refine Jy (K:=K) (t0:=true) (u0:=true) (a:=a) (b:=b) (xs:=Y) (ys:=vb) (acc:=acc) (el.trans S.symm) (λj σ H2=>∃x y:Option V,σ=[x,y]/\H2 acc=some (.lst ((dU j true).map V.bl))/\Ext acc H H2) ?_ ?_ ?_ ?_
   ·exact ⟨none,none,rfl,j9,Ext.put⟩
   ·rintro j σ H2 hj ⟨x,y,rfl,D,t⟩
    exact ⟨SqT.of (t _ _ u (j4 u m)),SqT.of (t _ _ l (j4 l m))⟩
   ·rintro j x y σ H2 p q C ⟨v1,v2,rfl,D,t⟩ X
    obtain ⟨d1,B,q1⟩:=da.get q
    obtain ⟨d2,O,q2⟩:=db.get C
    rw [B] at O
    cases O
    have hj:j<ds.length:=(List.getElem?_eq_some_iff.mp B).1
    have U:jo H (upd H2 p (.tup [x,y])):=λc o g=>(jo.new X) _ _ (t _ _ g (j4 g m))
    have L:=q1.same U
    have J:=q2.same U
    have R:upd H2 p (.tup [x,y]) acc=_:=(jo.new X) _ _ D
    have T:Ext acc H (upd H2 p (.tup [x,y])):=λc o g n=>(jo.new X) _ _ (t _ _ g n)
    have M:upd H2 p (.tup [x,y]) p=some (.tup [x,y]):=j9
    generalize upd H2 p (.tup [x,y])=H4 at U L J R T M
    walk_at "r"
    refine ⟨p,_,rfl,SqT.of M,rfl,?_⟩
    refine ⟨_,_,rfl,_,_,rfl,rfl,?_⟩
    walk_at "r"
    refine ⟨x,y,d1,rfl,L,J,List.all_eq_true.mp ab.2 _ (aC B),λH5 Z=>?_⟩
    refine ⟨_,Z _ _ R,by rw [ag,fG];exact jj (),_,_,rfl,?_,λc o g n=>by rw [j8 n];exact Z _ _ (T c o g n)⟩
    rw [j9,oW,aD]
    rfl
   ·rintro σ H2 ⟨v1,v2,rfl,D,t⟩
    refine ⟨acc,_,rfl,SqL.of D,?_⟩
    have e:((dU Y.length true).all λb=>b)=true:=by
     rw [bP]
     intro x q
     exact (List.mem_replicate.mp q).2
    rw [e]
    exact k H2 λc o g=>t c o g (j4 g m)
  | _=>cases q
inductive spGroundDrawn  (vs:List V) (H:Hp) (Q:VK) (z_3:XK):Prop
 | mk (L b:Addr) (tp sz:Int) (_:vs=[.ref b,.int tp,.int sz]) (_:jK L H b) (_:tp<=99) (_:0<=sz) (_:sz<=100) (_:∀p H' (hs:List Int),jK L H' b->Ext b H H'->H p=none->H' p=some (.lst (hs.map V.int))->(hs.length:Int)=sz->(∀x∈hs,0<=x/\x<=99)->Q (.ref p) H')
theorem xi:FnScope ["_law_box_here","_law_top","_law_size","_law_pick","_law_step"] ["_law_box_here","_law_top","_law_size"] (ja qw):=by walk_at "s"
theorem k9 (nb:Nb2 mg) (j:Cal P w K mg base 2 "_law_take" ["_law_box_here","_law_size"] spTakeL) (F:Fun K "_law_ground_drawn" "_law_ground_drawn" qw f fd):FnOk P w K mg base CX0 3 f fd ["_law_box_here","_law_top","_law_size"] spGroundDrawn:=by
 refine F.ok xi (λS H Q E h=>?_) (λU A outer s H S Q E I h=>?_)
 ·obtain ⟨L,b,tp,sz,rfl,_⟩:=h
  rfl
 ·obtain ⟨L,b,tp,sz,rfl,B,T,h0,h1,k⟩:=h
  refine ⟨_,(j6 (js 3 xi.nd (je j (I.mono ⋯) rfl ↥10))
   (j6 (jN (jq xA (pv 3) j7 (jw _)) (jb (jk (qc (osc:=(ja qw)) (ON:=["_law_box_here","_law_top","_law_size","_law_pick","_law_step"]) (N:=["_law_turn","_law_box_here"]) (own:=1) (caps:=[0]) ⟨rfl,∅,∅,∅,rfl,∅⟩ rfl rfl rfl (qy rfl nb.b_range ↥65) (λ_ _ _ _ _=>(jd (i:=0) (show bp (["_law_turn","_law_box_here"]:List Str) by decide +kernel) rfl (aR rfl))) ↥38 (λ_ _ _ _ _=>(je j (I.mono ⋯) rfl (j0 (pv 1) (j0 j7 j5))))))) jv)
   (j6 (uc (i:=4) xi.nd rfl (lr rfl) (jr jL j7 (je j (I.mono ⋯) rfl ↥10)))
   (jb (jk (qc (osc:=(ja qw)) (ON:=["_law_box_here","_law_top","_law_size","_law_pick","_law_step"]) (N:=["_law_place","_law_top","_law_step"]) (own:=1) (caps:=[1,4]) ⟨rfl,∅,∅,∅,rfl,∅⟩ rfl rfl rfl (qy rfl nb.b_range ↥65) (λ_ _ _ _ _=>(jd (i:=0) (show bp (["_law_place","_law_top","_law_step"]:List Str) by decide +kernel) rfl (aR rfl))) ↥38 (λ_ _ _ _ _=>(jf (zA rfl) rfl nb.b_max oX (j0 j7 (j0 (jr qO (pv 1) (jr wo (pv 2) (pv 0))) j5)))))))))),?_⟩
  walk_at "r"
  refine ⟨L,b,_,rfl,B,⟨⋯,⋯⟩,λX H1 p1 q1 G D=>?_⟩
  walk_at "r"
  refine qp (λ_=>?_) (λ_=>?_)
  ·walk_at "r"
   refine ⟨(),(),λacc a=>?_⟩
   have e:=G.ne a
   have g:=G.neL a
   refine xV (lo:=0) (n:=sz.toNat) (acc:=acc) (λi σ H2=>∃(x:Option V) (d:List Int),σ=[x,some (.ref b)]/\jK L H2 b/\H2 acc=some (.lst (d.map V.int))/\d.length=i/\(∀x∈d,0<=x/\x<=99)/\Ext b H1 H2) ?_ ?_ ?_
   ·exact ⟨none,[],rfl,G.put e g,j9,rfl,(by intro x hx;cases hx),Ext.new a⟩
   ·rintro i σ H2 hi ⟨x,d,rfl,p,h2,t,l,M⟩
    walk_at "r"
    refine ⟨L,b,_,rfl,p,⟨⋯,⋯⟩,λv m p3 Y z O=>?_⟩
    have y:=O _ _ h2 e
    refine ⟨_,y,by rw [ag];exact jj (),_,d++[v],rfl,z.put e g,by rw [j9,aD];rfl,by rw [ar,t];rfl,λx hx=>?_,λc o u n=>?_⟩
    ·rcases List.mem_append.mp hx with hx | hx
     ·exact l x hx
     ·have:x=v:=by simpa using hx
      right
    ·rw [j8 (j4 u a)]
     exact O _ _ (M c o u n) n
   ·rintro σ H2 ⟨x,d,rfl,p,h2,t,l,M⟩
    exact k acc H2 d p (D.trans M) (D.free a e) h2 () l
  ·walk_at "r"
   refine ⟨L,b,_,rfl,G,⟨⋯,⋯⟩,λq H2 p2 Z p R=>?_⟩
   walk_at "r"
   refine ⟨(),(),λacc a=>?_⟩
   have e:=p.ne a
   have g:=p.neL a
   refine xV (lo:=0) (n:=sz.toNat) (acc:=acc) (λi σ m=>∃(x:Option V) (d:List Int),σ=[x,some (.int tp),some (.int (1+q))]/\jK L m b/\m acc=some (.lst (d.map V.int))/\d.length=i/\(∀x∈d,0<=x/\x<=99)/\Ext b H2 m) ?_ ?_ ?_
   ·exact ⟨none,[],rfl,p.put e g,j9,rfl,(by intro x hx;cases hx),Ext.new a⟩
   ·rintro i σ m hi ⟨x,d,rfl,z,y,t,l,J⟩
    walk_at "r"
    have hm:(0:Int)<=(1+q)*(0+(i:Int)):=Int.mul_nonneg () ()
    refine ⟨_,_,rfl,?_⟩
    refine ⟨_,y,by rw [ag];exact jj (),_,d++[if tp-(1+q)*(0+(i:Int)) > 0 then tp-(1+q)*(0+(i:Int)) else 0],rfl,z.put e g,by rw [j9,aD];rfl,by rw [ar,t];rfl,λx hx=>?_,λc o u n=>?_⟩
    ·rcases List.mem_append.mp hx with hx | hx
     ·exact l x hx
     ·have:x=if tp-(1+q)*(0+(i:Int)) > 0 then tp-(1+q)*(0+(i:Int)) else 0:=by simpa using hx
      rw [this]
      split <;> right
    ·rw [j8 (j4 u a)]
     exact J c o u n
   ·rintro σ m ⟨x,d,rfl,z,y,t,l,J⟩
    have C:=R.free a e
    exact k acc m d z ((D.trans R).trans J) (D.free C e) y () l
structure RD (L b tp rw dp:Addr) (H0:Hp):Prop where
 tb:tp≠b
 rb:rw≠b
 db:dp≠b
 tL:tp≠L
 rL:rw≠L
 dL:dp≠L
 tr:tp≠rw
 td:tp≠dp
 rd:rw≠dp
 nt:H0 tp=none
 nr:H0 rw=none
 nd:H0 dp=none
structure RG (L b tp rw dp:Addr) (H0 H:Hp) (ts:List Int) (xs:List V) (rs:List Rch) (ds:List Int):Prop where
 box:jK L H b
 htp:H tp=some (.lst (ts.map V.int))
 hrw:H rw=some (.lst xs)
 hdp:H dp=some (.lst (ds.map V.int))
 rows:qd H xs rs
 ext:Ext b H0 H
section
variable {L b tp rw dp:Addr}{H0 H H':Hp}{ts ds:List Int}{xs:List V}{rs:List Rch}
theorem RG.take (D:RD L b tp rw dp H0) (G:RG L b tp rw dp H0 H ts xs rs ds) (B:jK L H' b) (X:Ext b H H'):RG L b tp rw dp H0 H' ts xs rs ds :=
 ⟨B,X _ _ G.htp D.tb,X _ _ G.hrw D.rb,X _ _ G.hdp D.db,G.rows.keep (by obtain ⟨ns,a,r,c,d,h1,_⟩:=G.box;exact jn.lst X h1),G.ext.trans X⟩
theorem RG.same (G:RG L b tp rw dp H0 H ts xs rs ds) (s:jo H H'):RG L b tp rw dp H0 H' ts xs rs ds :=
 ⟨G.box.same s,s _ _ G.htp,s _ _ G.hrw,s _ _ G.hdp,G.rows.keep (jn.same s),G.ext.trans (Ext.of_same s)⟩
theorem RG.extN {a:Addr}(G:RG L b tp rw dp H0 H ts xs rs ds) (j:H a=none) (e:Ext a H H'):RG L b tp rw dp H0 H' ts xs rs ds:=G.same λc o h=>e c o h (j4 h j)
theorem RG.putT (D:RD L b tp rw dp H0) (G:RG L b tp rw dp H0 H ts xs rs ds) (j:List Int):RG L b tp rw dp H0 (upd H tp (.lst (j.map V.int))) j xs rs ds :=
 ⟨G.box.put D.tb D.tL,j9,by rw [j8 D.tr.symm];exact G.hrw,by rw [j8 D.td.symm];exact G.hdp,G.rows.keep (jn.lst Ext.put G.htp),λc o h n=>by rw [j8 (j4 h D.nt)];exact G.ext c o h n⟩
theorem RG.putR (D:RD L b tp rw dp H0) (G:RG L b tp rw dp H0 H ts xs rs ds) (q:JX H v r):RG L b tp rw dp H0 (upd H rw (.lst (xs++[v]))) ts (xs++[v]) (rs++[r]) ds :=
 ⟨G.box.put D.rb D.rL,by rw [j8 D.tr];exact G.htp,j9,by rw [j8 D.rd.symm];exact G.hdp,(G.rows.snoc q).keep (jn.lst Ext.put G.hrw),λc o h n=>by rw [j8 (j4 h D.nr)];exact G.ext c o h n⟩
theorem RG.putD (D:RD L b tp rw dp H0) (G:RG L b tp rw dp H0 H ts xs rs ds) (ds':List Int):RG L b tp rw dp H0 (upd H dp (.lst (ds'.map V.int))) ts xs rs ds' :=
 ⟨G.box.put D.db D.dL,by rw [j8 D.td];exact G.htp,by rw [j8 D.rd];exact G.hrw,j9,G.rows.keep (jn.lst Ext.put G.hdp),λc o h n=>by rw [j8 (j4 h D.nd)];exact G.ext c o h n⟩
end
noncomputable def xU (rs:List Rch):List Int:=(aW rs.length).map λi=>jD rs (qB rs i)
theorem Xs {t:Int}{j:List Int}(G:Grown rs) (U:0<=t) (h1:t<rs.length) (I:okR rs.length (t,j)=true):xU (rs++[(t,j)])=xU rs++[jD rs (qB rs t.toNat)+j.length]:=by
 have b:=qm G.ok
 unfold xU
 rw [ar,bu,dg,aD]
 congr 1
 ·apply eP
  intro i hi
  have a:=List.mem_range.mp hi
  rw [vC b a,zh _ (zq b i a)]
 ·show [jD (rs++[(t,j)]) (qB (rs++[(t,j)]) rs.length)]=[_]
  rw [G.deep_snoc U h1 I]
theorem YV {rs:List Rch}{t:Int}(j:0<=t) (h1:t<rs.length):atI ((xU rs).map V.int) t=some (.int (jD rs (qB rs t.toNat))):=by
 refine xg j ?_
 unfold xU
 rw [aH,aH,lL ()]
 rfl
theorem UJ {i:Nat}{t sz:Int}{j:List Int}(hi:0<i) (I:0<=t) (h1:t<i) (hl:(j.length:Int)=sz) (Y:1<=sz) (U:sz<=12) (G:∀x∈j,0<=x/\x<=99):okR i (t,j)=true:=by
 unfold okR xP
 rw [if_neg (),decide_eq_true (show 0<=t/\t<(i:Int) from ⟨I,h1⟩),decide_eq_true (show 1<=(j.length:Int)/\(j.length:Int)<=12 by right),eL,eL,bP]
 intro x a
 exact decide_eq_true (G x a)
inductive spReachesL  (vs:List V) (H:Hp) (Q:VK) (z_3:XK):Prop
 | mk (L b:Addr) (_:vs=[.ref b]) (_:jK L H b) (_:∀p H' xs rs,jK L H' b->Ext b H H'->H p=none->H' p=some (.lst xs)->qd H' xs rs->Grown rs->1<=rs.length->rs.length<=8->Q (.ref p) H')
theorem jI:FnScope ["_law_box_here","_law_tops","_law_sizes","_law_rows","_law_deep","_law_number","_law_to","_law_led","_law_heads","_law_size"] ["_law_box_here"] (ja xj):=by walk_at "s"
theorem Gv {v:Int}(a:0<=v) (b:v<3):∃n,atI [V.int 1,V.int 3,V.int 8] v=some (V.int n)/\0<n/\n<=8:=by
 have h:v=0\/v=1\/v=2:=()
 rcases h with rfl | rfl | rfl
 ·exact ⟨1,rfl,(),()⟩
 ·exact ⟨3,rfl,(),()⟩
 ·exact ⟨8,rfl,(),()⟩
theorem Zl (nb:Nb2 mg) (I:Cal P w K mg base 2 "_law_take" ["_law_box_here","_law_size"] spTakeL) (U:Cal P w K mg base 3 "_law_ground_drawn" ["_law_box_here","_law_top","_law_size"] spGroundDrawn) (F:Fun K "_law_reaches" "_law_reaches" xj f fd):FnOk P w K mg base CX0 4 f fd ["_law_box_here"] spReachesL:=by
 refine F.ok jI (λl H Q E h=>?_) (λed A outer s H l Q E e h=>?_)
 ·obtain ⟨L,b,rfl,_⟩:=h
  rfl
 ·obtain ⟨L,b,rfl,B,k⟩:=h
  refine ⟨_,(j6 (js 1 jI.nd (jB (j0 (jr jL j7 (je I (e.mono ⋯) rfl ↥10)) j5)))
   (j6 (js 2 jI.nd (jB (j0 (jr jL j7 (je I (e.mono ⋯) rfl ↥10)) j5)))
   (j6 (js 3 jI.nd (jB (j0 (qx (j0 (jr qO j7 j7) (j0 (qN (zE K) rfl nb.b_tuple dC (j0 (je U (e.mono ⋯) rfl (j0 (pv 0) (j0 (jp (jg K) (pv 1) j7 (λ_ _=>rfl)) (j0 (jp (jg K) (pv 2) j7 (λ_ _=>rfl)) j5)))) j5)) j5))) j5)))
   (j6 (js 4 jI.nd (jB (j0 (jp (jg K) (pv 2) j7 (λ_ _=>rfl)) j5)))
   (j6 (qA bh rfl (wD rfl nb.b_range (j0 j7 (j0 (jr jL j7 (je I (e.mono ⋯) rfl (j0 (pv 0) (j0 (jp (jg K) (jB (j0 j7 ↥143)) (je I (e.mono ⋯) rfl ↥10) (λ_ _=>rfl)) j5)))) j5))) (jd (i:=5) jI.nd rfl (aR rfl)) (j6 (js 6 jI.nd (je I (e.mono ⋯) rfl (j0 (pv 0) (j0 (pv 5) j5))))
   (j6 (uc (i:=7) jI.nd rfl (lr rfl) (qc (osc:=(ja xj)) (ON:=["_law_box_here","_law_tops","_law_sizes","_law_rows","_law_deep","_law_number","_law_to","_law_led","_law_heads","_law_size"]) (N:=["_law_row_here"]) (own:=1) (caps:=[]) ⟨rfl,∅,∅,∅,rfl,∅⟩ rfl rfl rfl (jX K (pv 3)) (λ_ _ _ _ _=>(jd (i:=0) (show bp (["_law_row_here"]:List Str) by decide +kernel) rfl (aR rfl))) ↥38 (λ_ _ _ _ _=>↥99)))
   (j6 (js 8 jI.nd (jf (ji K) rfl nb.b_len b9 (j0 (qc (osc:=(ja xj)) (ON:=["_law_box_here","_law_tops","_law_sizes","_law_rows","_law_deep","_law_number","_law_to","_law_led","_law_heads","_law_size"]) (N:=["_law_one","_law_led"]) (own:=1) (caps:=[7]) ⟨rfl,∅,∅,∅,rfl,∅⟩ rfl rfl rfl (qy rfl nb.b_range (j0 (pv 5) j5)) (λ_ _ _ _ _=>(jd (i:=0) (show bp (["_law_one","_law_led"]:List Str) by decide +kernel) rfl (aR rfl))) (λ_ _ _ _ _=>(yk (jq (ya K) (pv 0) (pv 1) ↥60))) (λ_ _ _ _ _=>(pv 0))) j5)))
   (uG (jN (PW.pt (vm (jq xA (pv 8) j7 (jw _)) (yO (jq (kA K) (pv 6) (pv 7) ↥60)))) (jb (js 6 jI.nd (jr qO (pv 5) j7))) jv)
   (jb (jN (jq vK (jp (jg K) (pv 4) (pv 6) (λ_ _=>rfl)) j7 (jw _)) (j6 (js 9 jI.nd (jr jL j7 (je I (e.mono ⋯) rfl (j0 (pv 0) (j0 (jf (w5 rfl) rfl nb.b_min Ak (j0 j7 (j0 (jr qO j7 (jp (jg K) (pv 4) (pv 6) (λ_ _=>rfl))) j5))) j5)))))
   (j6 (qa (zw K bF bz bA qh (pv 1) (j0 (jf (w5 rfl) rfl nb.b_min Ak (j0 j7 (j0 (jr jL (jp (jg K) (pv 1) (pv 6) (λ_ _=>rfl)) (je I (e.mono ⋯) rfl ↥10)) j5))) j5)))
   (j6 (qa (zw K bF bz bA qh (pv 3) (j0 (qx (j0 (pv 6) (j0 (qN (zE K) rfl nb.b_tuple dC (j0 (je U (e.mono ⋯) rfl (j0 (pv 0) (j0 (jp (jg K) (pv 1) (kZ vY j7) (λ_ _=>rfl)) (j0 (pv 9) j5)))) j5)) j5))) j5)))
   (jb (qa (zw K bF bz bA qh (pv 4) (j0 (jr jL (jp (jg K) (pv 4) (pv 6) (λ_ _=>rfl)) (pv 9)) j5))))))) (jb (jk (pv 3))))))))))
   (jb (jk (pv 3)))))))),?_⟩
  walk_at "r"
  refine ⟨L,b,_,rfl,B,⟨⋯,⋯⟩,λv1 H1 p1 q1 B1 X1=>?_⟩
  walk_at "r"
  refine ⟨by show 1<=sizeLine;decide,λtp H2 an bv s2=>?_⟩
  have B2:=B1.same s2
  walk_at "r"
  refine ⟨L,b,_,rfl,B2,⟨⋯,⋯⟩,λv2 Y p3 q3 B3 X3=>?_⟩
  have tb:=B1.ne an
  have tL:=B1.neL an
  walk_at "r"
  refine ⟨by show 1<=sizeLine;decide,λsz H4 c8 b2 s4=>?_⟩
  have B4:=B3.same s4
  have bs:=s4 _ _ (X3 _ _ bv tb)
  walk_at "r"
  refine ⟨L,b,20+v1,1+v2,rfl,B4,(),(),(),λgl H5 d B5 X5 d7 ci hl hb=>?_⟩
  have ct:=B3.ne c8
  have am:=X5 _ _ bs tb
  have b1:=X5 _ _ b2 ct
  refine ⟨gl,_,rfl,SqL.of ci,λgt H6 d4 ce s6=>?_⟩
  refine ⟨by show 2<=sizeLine;decide,λrt H7 d3 b4 S=>?_⟩
  refine ⟨by show 1<=sizeLine;decide,λrw H8 M as s8=>?_⟩
  have B8:=((B5.same s6).same S).same s8
  have o:jo H5 H8:=(s6.trans S).trans s8
  have dD:=o _ _ b1
  have al:=o _ _ am
  have b3:H5 rw=none:=(s6.trans S).free M
  have B7:=(B5.same s6).same S
  have rb:=B7.ne M
  have rL:=B7.neL M
  have tr:tp≠rw:=j4 ((s6.trans S) _ _ am) M
  walk_at "r"
  refine ⟨by show 1<=sizeLine;decide,λdp H9 u cl R=>?_⟩
  have db:=B8.ne u
  have dL:=B8.neL u
  have td:tp≠dp:=j4 al u
  have rd:rw≠dp:=j4 as u
  have nz:∀a,H8 a=none->a≠b->a≠L->H a=none:=λa ha ab aL=>by
   have a5:=o.free ha
   have a4:=X5.free a5 ab
   exact X1.free (s2.free (X3.free (s4.free a4) ab)) ab
  have nt:H tp=none:=X1.free an tb
  have nr:H rw=none:=X1.free (s2.free (X3.free (s4.free (X5.free b3 rb)) rb)) rb
  have nd:H dp=none:=nz dp u db dL
  have D:RD L b tp rw dp H:=⟨tb,rb,db,tL,rL,dL,tr,td,rd,nt,nr,nd⟩
  have c3:wf [((0-1:Int),d)]=true:=by
   unfold wf okR xP
   simp only [bu,List.range_one,pE,List.all_nil,pI]
   show (decide ((0-1:Int) = -1) && decide (1<=(d.length:Int)/\(d.length:Int)<=12) && d.all λx=>decide (0<=x/\x<=99))=true
   rw [decide_eq_true (show 1<=(d.length:Int)/\(d.length:Int)<=12 by right),bt,bP]
   exact ⟨rfl,λx hx=>decide_eq_true (hb x hx)⟩
  have a6:qB [((0-1:Int),d)] 0=[0]:=rfl
  have a7:jD [((0-1:Int),d)] [0]=d.length:=by unfold jD;simp [y3]
  have G0:Grown [((0-1:Int),d)]:=by
   refine ⟨c3,aN (bU _ _) (by simp),λi hi=>?_⟩
   have:i=0:=by simp at hi;exact hi
   subst this
   rw [a6,a7]
   right
  have cr:Ext b H H8:=((((X1.trans (Ext.of_same s2)).trans X3).trans (Ext.of_same s4)).trans X5).trans (Ext.of_same o)
  have bn:RG L b tp rw dp H H9 [20+v1] [.ref rt] [((0-1:Int),d)] (xU [((0-1:Int),d)]):=by
   refine ⟨B8.same R,R _ _ al,R _ _ as,?_,.cons ⟨rt,gt,rfl,R _ _ (s8 _ _ b4),R _ _ (s8 _ _ (S _ _ ce))⟩ .nil,cr.trans (Ext.of_same R)⟩
   rw [cl]
   show some (HO.lst [V.int (1+v2)])=some (.lst [V.int (jD [((0-1:Int),d)] (qB [((0-1:Int),d)] 0))])
   rw [a6,a7,hl]
  walk_at "r"
  refine ⟨by show 3<=sizeLine;decide,λdV ej hq b6 cL=>?_⟩
  have bm:=bn.same cL
  walk_at "r"
  refine ⟨L,b,_,rfl,bm.box,⟨⋯,⋯⟩,λv3 ei c2 c1 bq bl=>?_⟩
  have du:=bm.take D bq bl
  have b5:=bl _ _ b6 (bn.box.ne hq)
  obtain ⟨n,hn,n0,n8⟩:=Gv c2 c1
  refine ⟨_,_,_,_,rfl,rfl,SqL.of b5,hn,?_⟩
  refine ⟨L,b,_,rfl,bq,⟨n0,()⟩,λv4 eh d1 d0 dy dk=>?_⟩
  have dn:=du.take D dy dk
  walk_at "r"
  refine ⟨1,1+v4,rfl,⟨(),(),(),()⟩,?_⟩
  have b0:∀t∈[20+v1],t<=99:=λt ht=>by
   have:t=20+v1:=by simpa using ht
   right
  have done:∀(H':Hp) ts xs rs ds,RG L b tp rw dp H H' ts xs rs ds->Grown rs->1<=rs.length->rs.length<=8->Q (.ref rw) H':=λH' ts xs rs ds G gr h1 h8=>k rw H' xs rs G.box G.ext nr G.hrw G.rows gr h1 h8
  refine qI (lo:=1) (n:=(1+v4-1).toNat) (λi σ H'=>∃(v5 v6 v7 v8 v9:Option V) (ts:List Int) (xs:List V) (rs:List Rch),σ=[some (.ref b),some (.ref tp),some (.ref sz),some (.ref rw),some (.ref dp),v5,v6,v7,v8,v9]/\RG L b tp rw dp H H' ts xs rs (xU rs)/\Grown rs/\rs.length=i+1/\ts.length=i+1/\∀t∈ts,t<=99) ⟨_,_,_,_,_,_,_,_,rfl,dn,G0,rfl,rfl,b0⟩ ?_ ?_
  ·rintro i σ H' hi ⟨v5,v6,v7,v8,v9,ts,xs,rs,rfl,G,gr,bc,a9,ba⟩
   have Ld:=qm gr.ok
   have c4:=G.rows.length
   walk_at "r"
   refine ⟨L,b,_,rfl,G.box,⟨(),()⟩,λt Ha bi ec Ba Xa=>?_⟩
   have Ga:=G.take D Ba Xa
   walk_at "r"
   refine ⟨⟨_,SqL.of Ga.hrw⟩,λld a0=>?_⟩
   refine qv (K:=K) (a:=rw) (xs:=xs) (acc:=ld) (λj σ H2=>∃x:Option V,σ=[x]/\H2 ld=some (.lst (((rs.take j).map (·.1)).map V.int))/\Ext ld Ha H2) ?_ ?_ ?_ ?_
   ·exact ⟨none,rfl,j9,Ext.put⟩
   ·rintro j σ H2 hj ⟨x,rfl,y,X⟩
    exact SqL.of (X _ _ Ga.hrw (j4 Ga.hrw a0))
   ·rintro j v σ H2 hv ⟨x,rfl,y,X⟩
    obtain ⟨r,e,q,g,rfl,hq,hg⟩:=(Ga.rows.keep (jn.new X a0)).get hv
    have hj:j<rs.length:=(List.getElem?_eq_some_iff.mp e).1
    walk_at "r"
    refine ⟨_,y,by rw [ag,ag,aY];exact jj (),_,rfl,?_,X.trans Ext.put⟩
    rw [j9,qG (λr:Rch=>r.1) rs j r e,aD]
    rfl
   ·rintro σ H2 ⟨x,rfl,y,X⟩
    rw [c4,bg] at y
    have Gb:=Ga.extN a0 X
    walk_at "r"
    refine ⟨(),(),λhd a1=>?_⟩
    have en:(1+(i:Int)).toNat=rs.length:=()
    refine xV (lo:=0) (n:=(1+(i:Int)).toNat) (acc:=hd) (λj σ Y=>∃(x:Option V) (l:List V),σ=[x,some (.ref ld)]/\Y hd=some (.lst l)/\l.length=((aW j).filter (jR rs)).length/\Ext hd H2 Y) ?_ ?_ ?_
    ·exact ⟨none,[],rfl,j9,rfl,Ext.put⟩
    ·rintro j σ Y hj ⟨x,l,rfl,h4,l4,T⟩
     have er:((aW (j+1)).filter (jR rs)).length=((aW j).filter (jR rs)).length+(if jR rs j=true then 1 else 0):=by
      rw [dg,bK,ar]
      congr 1
      by_cases z:jR rs j=true
      ·rw [if_pos z];simp [z]
      ·rw [if_neg z];simp [z]
     have ea:((aW j).filter (jR rs)).length<=j:=aN (bU _ _) (by rw [bQ];exact ak _)
     walk_at "r"
     refine ⟨ld,_,rfl,.inl (SqL.of (T _ _ y (j4 y a1))),rfl,yi _,?_⟩
     walk_at "r"
     rw [nR,v0]
     refine yV (λm=>?_) (λm=>?_)
     ·have hb:jR rs j=true:=by unfold jR;rw [decide_eq_false (show ¬(j:Int)∈tos rs from m)];rfl
      walk_at "r"
      refine ⟨l,h4,jj (),_,_,rfl,j9,?_,T.trans Ext.put⟩
      rw [ar,bu,er,if_pos hb,l4]
     ·have hb:¬jR rs j=true:=by unfold jR;rw [decide_eq_true (show (j:Int)∈tos rs from m)];exact aq
      exact ⟨_,l,rfl,h4,by rw [er,if_neg hb,l4,rR],T⟩
    ·rintro σ Y ⟨x,l,rfl,h4,l4,T⟩
     have Gc:=Gb.extN a1 T
     have cb:=T _ _ y (j4 y a1)
     rw [en] at l4
     have d2:l.length=(ju rs).length:=l4
     refine ⟨_,_,rfl,.inl (SqL.of h4),?_⟩
     refine ⟨λσ H5=>∃c:Int,σ=[some (.ref b),some (.ref tp),some (.ref sz),some (.ref rw),some (.ref dp),some (.int (1+(i:Int))),some (.int c),some (.ref ld),some (.int l.length),v9]/\H5=Y/\0<=c/\c<rs.length/\(c∈tos rs->(ju rs).length<6),?_,?_⟩
     ·have hh:=gr.heads
      walk_at "r"
      refine qp (λh6=>?_) (λh6=>?_)
      ·walk_at "r"
       refine ⟨ld,_,rfl,.inl (SqL.of cb),rfl,yi _,?_⟩
       walk_at "r"
       rw [v0]
       refine qp (λm=>?_) (λm=>?_)
       ·walk_at "r"
        refine ⟨(),(),λz=>?_⟩
        have:=Ze Ld z
        right
       ·exact ⟨t,rfl,rfl,bi,(),λz=>absurd z m⟩
      ·have:(ju rs).length<6:=by
        have:(l.length:Int)≠6:=λz=>h6 (by rw [z])
        right
       exact ⟨t,rfl,rfl,bi,(),λ_=>this⟩
     ·rintro σ H5 ⟨c,rfl,rfl,Z,t1,th⟩
      have O:=YV Z t1
      walk_at "r"
      refine ⟨_,_,_,_,rfl,rfl,SqL.of Gc.hdp,O,?_⟩
      walk_at "r"
      refine qp (λbk=>?_) (λbk=>?_)
      ·have cm:=gr.deep c.toNat ()
       generalize be:jD rs (qB rs c.toNat)=dt at O bk cm
       walk_at "r"
       refine ⟨_,_,_,_,rfl,rfl,SqL.of Gc.hdp,O,?_⟩
       walk_at "r"
       refine ⟨_,_,rfl,?_⟩
       refine ⟨L,b,_,rfl,Gc.box,⟨by split <;> right,by split <;> right⟩,λp H6 p6 q6 B6 X6=>?_⟩
       have Gd:=Gc.take D B6 X6
       have dz:1+p<=12/\dt+(1+p)<=30:=by
        have c0:=q6
        split at c0 <;> right
       walk_at "r"
       refine ⟨.inl ⟨rfl,_,SqL.of Gd.htp⟩,?_⟩
       walk_at "r"
       have ap:c.toNat<ts.length:=()
       refine ⟨_,_,_,_,rfl,rfl,SqL.of Gd.htp,xg Z (by rw [aH,ae ap];rfl),?_⟩
       walk_at "r"
       refine ⟨L,b,_,rfl,Gd.box,⟨⋯,⋯⟩,λa3 H7 p7 q7 B7 X7=>?_⟩
       have Ge:=Gd.take D B7 X7
       walk_at "r"
       refine ⟨_,_,rfl,?_⟩
       generalize ca:(if ts[c.toNat]'ap+a3<99 then ts[c.toNat]'ap+a3 else 99)=new
       have az:new<=99:=by rw [<- ca];split <;> right
       walk_at "r"
       refine ⟨tp,_,_,rfl,rfl,Ge.htp,by rw [ag];exact jj (),?_⟩
       have Gf:RG L b tp rw dp H (upd H7 tp (.lst (ts.map V.int++[V.int new]))) (ts++[new]) xs rs (xU rs):=by
        have:=Ge.putT D (ts++[new])
        rw [aD] at this
        exact this
       walk_at "r"
       refine ⟨.inl ⟨rfl,_,SqL.of Gf.hrw⟩,?_⟩
       walk_at "r"
       refine ⟨_,_,_,_,rfl,rfl,SqL.of j9,Xj _ _,?_⟩
       walk_at "r"
       refine ⟨L,b,new,1+p,rfl,Gf.box,az,(),(),λdd H8 J dx X8 dT ch bd da=>?_⟩
       have Gg:=Gf.take D dx X8
       refine ⟨dd,_,rfl,SqL.of ch,λdc eg dK cd cy=>?_⟩
       refine ⟨by show 2<=sizeLine;decide,λC cs dF a2 ac=>?_⟩
       have Gh:=(Gg.same cy).same ac
       walk_at "r"
       refine ⟨rw,_,_,rfl,rfl,Gh.hrw,jj (),?_⟩
       have a8:okR rs.length (c,J)=true:=UJ () Z t1 bd () () da
       have Gi:=Gh.putR D (v:=.ref C) (r:=(c,J)) ⟨C,dc,rfl,a2,ac _ _ cd⟩
       walk_at "r"
       refine ⟨.inl ⟨rfl,_,SqL.of Gi.hdp⟩,?_⟩
       walk_at "r"
       refine ⟨_,_,_,_,rfl,rfl,SqL.of Gi.hdp,O,?_⟩
       walk_at "r"
       have eb:(xU rs).length=rs.length:=by unfold xU;simp
       refine ⟨dp,_,_,rfl,rfl,Gi.hdp,by rw [ag];exact jj (),?_⟩
       have Gj:RG L b tp rw dp H (upd (upd cs rw (.lst (xs++[.ref C]))) dp (.lst ((xU rs).map V.int++[V.int (dt+(1+p))]))) (ts++[new]) (xs++[.ref C]) (rs++[(c,J)]) (xU (rs++[(c,J)])):=by
        have:=Gi.putD D (xU rs++[dt+(1+p)])
        rw [aD] at this
        rw [Xs gr Z t1 a8,be,bd]
        exact this
       refine ⟨_,_,_,_,_,_,_,_,rfl,Gj,gr.snoc Z t1 a8 th (by rw [be];right),by rw [ar,bc];rfl,by rw [ar,a9];rfl,λt ht=>?_⟩
       rcases List.mem_append.mp ht with ht | ht
       ·exact ba t ht
       ·have:t=new:=by simpa using ht
        right
      ·walk_at "r"
       exact done _ _ _ _ _ Gc gr () ()
  ·rintro σ H' ⟨v5,v6,v7,v8,v9,ts,xs,rs,rfl,G,gr,bc,a9,ba⟩
   walk_at "r"
   exact done _ _ _ _ _ G gr () ()
noncomputable def YM (t:TE):Prop:=∀σ H Q a,(∀v H,Q v H->a v H)->t σ H Q->t σ H a
noncomputable def VQ (r:R2):Prop:=∀x y H Q a,(∀v H,Q v H->a v H)->r x y H Q->r x y H a
theorem ZN (i:Nat):YM (tVar i):=λ_ _ _ _ h ⟨v,e,q⟩=>⟨v,e,h _ _ q⟩
theorem ZM (v:V):YM (tC v):=λ_ _ _ _ h q=>h _ _ q
theorem kW (j:VQ r) (I:YM ta) (G:YM tb):YM (tOp r ta tb):=λσ H Q c h q=>I σ H _ _ (λx H1 b=>G σ H1 _ _ (λy H2 a=>j x y H2 _ _ h a) b) q
theorem ZR (K:af):VQ (rIxL K):=λ_ _ _ _ _ h ⟨a,xs,i,v,e,d,c,b,q⟩=>⟨a,xs,i,v,e,d,c,b,h _ _ q⟩
theorem UR (K:af):VQ (rIxT K):=λ_ _ _ _ _ h ⟨a,xs,i,v,e,d,c,b,q⟩=>⟨a,xs,i,v,e,d,c,b,h _ _ q⟩
theorem Ww (g:Int->Int->V):VQ (rI0 g):=λ_ _ _ _ _ h ⟨i,j,b,a,q⟩=>⟨i,j,b,a,h _ _ q⟩
theorem WM:VQ rNe:=λ_ _ _ _ _ h ⟨e,q⟩=>⟨e,h _ _ q⟩
theorem Vc {t:TE}(j:YM t):∀σ H Q Q',(∀b H1,Q b H1->Q' b H1)->Xv t σ H Q->Xv t σ H Q':=λσ H Q Q' h q=>j σ H _ _ (λ_ _ ⟨k,e,q⟩=>⟨k,e,h _ _ q⟩) q
theorem Xp {α:Type}{x:α}{l:List α}:atI (x::l) 0=some x:=zN (j:=0) rfl
noncomputable def uT (fd:Addr) (H:Hp) (vs:List V) (j:List (List Int)):Prop:=cW (λv (r:List Int)=>∃a,v=V.ref a/\a≠fd/\H a=some (.lst (r.map V.int))) vs j
theorem uT.ext {rows:List (List Int)}(h:uT fd H vs rows) (e:Ext fd H H'):uT fd H' vs rows:=Paired.mapP h λ_ _ ⟨a,b,n,q⟩=>⟨a,b,n,e _ _ q n⟩
theorem uT.rowsI {rows:List (List Int)}(h:uT fd H vs rows):yQ H vs rows:=Paired.mapP h λ_ _ ⟨a,b,n,q⟩=>⟨a,b,q⟩
theorem kK {vs:List V}{ws:List (List Int)}(h:yQ H vs ws):∀G:List Nat,(∀i∈G,i<vs.length)->yQ H (G.map λi=>vs.getD i V.non) (G.map λi=>ws.getD i [])
 | [],_=>.nil
 | i::G,b=>by
  refine .cons ?_ (kK h G λj c=>b j (aK _ c))
  have hi:=b i aM
  obtain ⟨y,f,a,e,d⟩:=Paired.get h (ae hi)
  refine ⟨a,?_,?_⟩
  ·show vs.getD i V.non=V.ref a
   rw [ao,ae hi];exact e
  ·show H a=some (.lst ((ws.getD i []).map V.int))
   rw [ao,f];exact d
inductive spRoadsL (K:af) (vs:List V) (H:Hp) (Q:VK) (z_3:XK):Prop
 | mk (p:Addr) (xs:List V) (rs:List Rch) (_:vs=[.ref p]) (_:H p=some (.lst xs)) (_:qd H xs rs) (_:xz rs) (_:rs.length<=60) (_:∀l H' out ws,H l=none->H' l=some (.lst out)->yQ H' out ws->qg rs ws->jo H H'->Q (.ref l) H')
theorem xa:FnScope ["_law_reaches_here","_law_led","_law_found","_law_head","_law_road"] ["_law_reaches_here"] (ja zg):=by walk_at "s"
theorem Vj (nb:Nb2 mg) (F:Fun K "_law_roads" "_law_roads" zg f fd):FnOk P w K mg base CX0 1 f fd ["_law_reaches_here"] (spRoadsL K):=by
 refine F.ok xa (λb H Q E h=>?_) (λcl A outer s H b Q E hr h=>?_)
 ·obtain ⟨p,xs,rs,rfl,_⟩:=h
  rfl
 ·obtain ⟨p,xs,rs,rfl,hp,ac,L,ci,k⟩:=h
  have an:=ac.length
  refine ⟨_,(j6 (ZL (j:=1) (osc:=(ja zg)) (ON:=["_law_reaches_here","_law_led","_law_found","_law_head","_law_road"]) (N:=["_law_to","_law_ground_here"]) (own:=2) (caps:=[]) ⟨rfl,∅,∅,∅,rfl,∅⟩ xa.nd rfl (aR rfl) rfl rfl rfl (jX K (pv 0)) (λ_ _ _ _ _=>(qj (n:=2) K rfl (jh (jd (i:=0) (show bp (["_law_to","_law_ground_here"]:List Str) by decide +kernel) rfl (aR rfl)) (jh (jd (i:=1) (show bp (["_law_to","_law_ground_here"]:List Str) by decide +kernel) rfl (aR rfl)) qi)))) ↥38 (λ_ _ _ _ _=>(pv 0)))
   (j6 (js 2 xa.nd (jB j5))
   (j6 (qA bh rfl (qy rfl nb.b_range (j0 ↥105 j5)) (jd (i:=3) xa.nd rfl (aR rfl)) (jb (jN (jq (ya K) (pv 3) (pv 1) ↥60) (j6 (js 4 xa.nd (jB (j0 (pv 3) j5)))
   (j6 (QV bh (jq Vk (jp (ql K) (jp (jg K) (pv 0) (jp (jg K) (pv 4) j7 (λ_ _=>rfl)) (λ_ _=>rfl)) j7 (λ_ _=>rfl)) (jr qO j7 j7) (jw _)) (jb (js 4 xa.nd (jr Wh (jB (j0 (jp (ql K) (jp (jg K) (pv 0) (jp (jg K) (pv 4) j7 (λ_ _=>rfl)) (λ_ _=>rfl)) j7 (λ_ _=>rfl)) j5)) (pv 4)))))
   (jb (qa (zw K bF bz bA qh (pv 2) (j0 (pv 4) j5)))))) jv)))
   (jb (jk (qc (osc:=(ja zg)) (ON:=["_law_reaches_here","_law_led","_law_found","_law_head","_law_road"]) (N:=["_law_road"]) (own:=1) (caps:=[]) ⟨rfl,∅,∅,∅,rfl,∅⟩ rfl rfl rfl (jX K (jf (Jb K hr.units) rfl nb.b_sorted mn ↥65)) (λ_ _ _ _ _=>(jd (i:=0) (show bp (["_law_road"]:List Str) by decide +kernel) rfl (aR rfl))) ↥38 (λ_ _ _ _ _=>(Ux K (pv 0))))))))),?_⟩
  walk_at "r"
  refine ⟨⟨_,SqL.of hp⟩,λT a0=>?_⟩
  refine qv (K:=K) (a:=p) (xs:=xs) (acc:=T) (λj σ H2=>∃x y:Option V,σ=[x,y]/\H2 T=some (.lst (((rs.take j).map (·.1)).map V.int))/\Ext T H H2) ?_ ?_ ?_ ?_
  ·exact ⟨none,none,rfl,j9,Ext.put⟩
  ·rintro j σ H2 hj ⟨x,y,rfl,S,X⟩
   exact SqL.of (X _ _ hp (j4 hp a0))
  ·rintro j v σ H2 R ⟨x,y,rfl,S,X⟩
   obtain ⟨r,hr,q,g,rfl,B,hg⟩:=(ac.keep (jn.new X a0)).get R
   have hj:j<rs.length:=(List.getElem?_eq_some_iff.mp hr).1
   walk_at "r"
   refine ⟨q,_,rfl,SqT.of B,rfl,?_⟩
   refine ⟨_,_,rfl,_,_,rfl,rfl,?_⟩
   walk_at "r"
   refine ⟨_,S,by rw [ag,ag,aY];exact jj (),_,_,rfl,?_,X.trans Ext.put⟩
   rw [j9,qG (λr:Rch=>r.1) rs j r hr,aD]
   rfl
  ·rintro σ H2 ⟨x,y,rfl,S,X⟩
   rw [an,bg] at S
   have u:jo H H2:=λc o d=>X c o d (j4 d a0)
   walk_at "r"
   refine ⟨aB _,λfo H3 aL az s3=>?_⟩
   have a4:=s3 _ _ (u _ _ hp)
   have a9:qd H3 xs rs:=ac.keep (jn.same (u.trans s3))
   have bi:=s3 _ _ S
   have bd:H fo=none:=u.free aL
   walk_at "r"
   refine ⟨_,_,rfl,.inl (SqL.of a4),?_⟩
   refine ⟨_,rfl,(),(),?_⟩
   rw [an]
   refine qI (lo:=0) (n:=((rs.length:Nat):Int).toNat) (λj σ H4=>∃(v3 v4:Option V) (b:List V),σ=[some (.ref p),some (.ref T),some (.ref fo),v3,v4]/\H4 fo=some (.lst b)/\uT fo H4 b (((aW j).filter (jR rs)).map λh=>(qB rs h).reverse)/\Ext fo H3 H4/\b.length<=j) ?_ ?_ ?_
   ·exact ⟨_,_,[],rfl,az,.nil,Ext.refl,ak _⟩
   ·rintro j σ H4 hj ⟨v3,v4,b,rfl,h4,D,M,l4⟩
    have b3:j<rs.length:=()
    have bm:jn H3 H4:=jn.lst M az
    have be:=M _ _ bi (j4 S aL)
    have b2:=M _ _ a4 (j4 (u _ _ hp) aL)
    have a8:qd H4 xs rs:=a9.keep bm
    have er:(aW (j+1)).filter (jR rs)=(aW j).filter (jR rs)++(if jR rs j=true then [j] else []):=by
     rw [dg,bK]
     congr 1
     by_cases z:jR rs j=true
     ·rw [if_pos z];simp [z]
     ·rw [if_neg z];simp [z]
    walk_at "r"
    refine ⟨T,_,rfl,.inl (SqL.of be),rfl,yi _,?_⟩
    walk_at "r"
    rw [nR,v0]
    refine yV (λap=>?_) (λap=>?_)
    ·have hb:jR rs j=true:=by unfold jR;rw [decide_eq_false (show ¬(j:Int)∈tos rs from ap)];rfl
     walk_at "r"
     refine ⟨by show 1<=sizeLine;decide,λr0 H5 bv bc O=>?_⟩
     walk_at "r"
     refine XH (λσ H6=>∃(a:Addr) (r:Nat) (l:List Int),σ=[some (.ref p),some (.ref T),some (.ref fo),some (.int (j:Int)),some (.ref a)]/\jo H4 H6/\H4 a=none/\H6 a=some (.lst (((r:Int)::l).map V.int))/\r<rs.length/\l.length+r<=100/\l.reverse++qB rs r=qB rs j) (λσ H6=>match σ with | [_,_,_,_,some (.ref a)]=>(match H6 a with | some (.lst (.int r::_))=>r.toNat | _=>0) | _=>0) ?_ ?_ ?_
     ·exact ⟨r0,j,[],rfl,O,bv,bc,b3,by simp;right,rfl⟩
     ·rintro σ H6 ⟨a,r,l,rfl,I,a7,C,e,ce,a6⟩
      have a3:=I _ _ b2
      obtain ⟨v,R,q,g,rfl,B,hg⟩:=(a8.keep (jn.same I)).at (ae e)
      have ht:=L.lt e
      have a5:=kP (L _ e)
      have et:=JQ (ae e)
      rw [et] at ht a5
      generalize (rs[r]'e).1=tt at ht a5 et B
      walk_at "r"
      refine ⟨_,_,_,_,rfl,rfl,SqL.of C,Xp,?_⟩
      refine ⟨_,_,_,_,rfl,rfl,SqL.of a3,zN R,?_⟩
      refine ⟨_,_,_,_,rfl,rfl,SqT.of B,rfl,?_⟩
      walk_at "r"
      refine yV (λam=>?_) (λam=>?_)
      ·have b6:0<=tt:=by
        have:tt ≠ -1:=λz=>am (by rw [z];rfl)
        right
       walk_at "r"
       refine ⟨_,_,_,_,rfl,rfl,SqL.of C,Xp,?_⟩
       refine ⟨_,_,_,_,rfl,rfl,SqL.of a3,zN R,?_⟩
       refine ⟨_,_,_,_,rfl,rfl,SqT.of B,rfl,?_⟩
       refine ⟨by show 1<=sizeLine;decide,λc1 H7 ch bk G=>?_⟩
       walk_at "r"
       refine ⟨c1,a,_,_,rfl,rfl,bk,G _ _ C,?_,λc2 H8 b4 a1 s8=>?_⟩
       ·show 1+(((r:Int)::l).map V.int).length<=sizeLine
        rw [ag,bo]
        exact ff (jj ())
       ·have b5:tt=((tt.toNat:Nat):Int):=()
        refine ⟨⟨c2,tt.toNat,(r:Int)::l,rfl,(I.trans G).trans s8,(I.trans G).free b4,?_,(),?_,?_⟩,?_⟩
        ·rw [a1,b5]
         simp only [cP]
         rfl
        ·rw [bo];right
        ·rw [mm,bR,<- a6,zS L e,et,if_neg ()]
         rfl
        ·show (match H8 c2 with | some (.lst (.int r::_))=>r.toNat | _=>0)<(match H6 a with | some (.lst (.int r::_))=>r.toNat | _=>0)
         rw [a1,C]
         show tt.toNat<((r:Int)).toNat
         right
      ·have ca:tt = -1:=V.int.inj am
       have as:=I _ _ h4
       walk_at "r"
       refine ⟨.inl ⟨rfl,_,SqL.of as⟩,?_⟩
       walk_at "r"
       refine ⟨fo,_,_,rfl,rfl,as,jj (),?_⟩
       have bl:a≠fo:=λz=>by rw [z,h4] at a7;cases a7
       refine ⟨_,_,b++[.ref a],rfl,j9,?_,λc o d n=>by rw [j8 n];exact I _ _ (M c o d n),by rw [ar,bu];right⟩
       rw [er,if_pos hb,aD]
       refine uT.ext (cE (D.ext (Ext.of_same I)) ⟨a,rfl,bl,?_⟩) Ext.put
       show H6 a=some (.lst (((qB rs j).reverse).map V.int))
       rw [C,<- a6,zS L e,et,if_pos (),List.reverse_append,fS]
       rfl
     ·exact Vc (kW WM (kW (UR K) (kW (ZR K) (ZN 0) (kW (ZR K) (ZN 4) (ZM _))) (ZM _)) (kW (Ww _) (ZM _) (ZM _)))
    ·have hb:¬jR rs j=true:=by unfold jR;rw [decide_eq_true (show (j:Int)∈tos rs from ap)];exact aq
     refine ⟨_,_,b,rfl,h4,?_,M,()⟩
     rw [er,if_neg hb,bj]
     exact D
   ·rintro σ H4 ⟨v3,v4,b,rfl,h4,D,M,l4⟩
    rw [cP] at D l4
    have Z:jo H H4:=λc o d=>M _ _ (s3 _ _ (u _ _ d)) (j4 d bd)
    walk_at "r"
    refine ⟨fo,b,_,rfl,SqL.of h4,(),D.rowsI,λso H5 out cb J O hs=>?_⟩
    obtain ⟨ix,al,eo,b1⟩:=hs
    have bq:b.length=(ju rs).length:=by rw [aP D,ag];rfl
    have hb:∀i∈ix,i<b.length:=λi hi=>by have:=al.mem_iff.mp hi;simpa using this
    have bs:=kK (D.rowsI) ix hb
    have ab:yQ H5 out (ix.map λi=>((↥135).getD i [])):=by
     rw [eo]
     exact Paired.mapP bs λ_ _ ⟨a,e1,q⟩=>⟨a,e1,O _ _ q⟩
    have cd:out.length<=60:=by rw [eo,ag,al.length_eq,bQ];right
    generalize a2:(ix.map λi=>((↥135).getD i []))=rv at ab
    have ba:=aP ab
    have bn:qg rs (rv.map de):=by
     refine ⟨?_,?_⟩
     ·have h1:=al.map λi=>((↥135).getD i [])
      rw [bq,show (ju rs).length=(↥135).length by rw [ag],gv,a2] at h1
      have h2:=h1.map de
      rw [cz] at h2
      refine h2.trans (List.Perm.of_eq (eP λx _=>?_))
      exact fS _
     ·rw [cz,show (de ∘ de:List Int->List Int)=id from funext λx=>fS x,oR,<- a2]
      exact b1
    refine ⟨so,rfl,⟨_,SqL.of J⟩,λacc t=>?_⟩
    refine qv (K:=K) (a:=so) (xs:=out) (acc:=acc) (λj σ H6=>∃(x:Option V) (m:List V),σ=[x]/\H6 acc=some (.lst m)/\uT acc H6 m ((rv.take j).map de)/\Ext acc H5 H6/\m.length=j) ?_ ?_ ?_ ?_
    ·exact ⟨none,[],rfl,j9,.nil,Ext.put,rfl⟩
    ·rintro j σ H6 hj ⟨x,m,rfl,h6,Y,U,l6⟩
     exact SqL.of (U _ _ J (j4 J t))
    ·rintro j v σ H6 R ⟨x,m,rfl,h6,Y,U,l6⟩
     obtain ⟨y,e2,a,rfl,ha⟩:=Paired.get ab R
     have hj:j<rv.length:=(List.getElem?_eq_some_iff.mp e2).1
     walk_at "r"
     refine ⟨a,_,rfl,SqL.of (U _ _ ha (j4 ha t)),λq H7 B b0 G=>?_⟩
     have h7:=G _ _ h6
     have nq:q≠acc:=λz=>by rw [z,h6] at B;cases B
     refine ⟨m,h7,jj (),_,m++[.ref q],rfl,j9,?_,λc o d n=>by rw [j8 n];exact G _ _ (U c o d n),by rw [ar,l6];rfl⟩
     rw [qG de rv j y e2]
     refine uT.ext (cE (Y.ext (Ext.of_same G)) ⟨q,rfl,nq,?_⟩) Ext.put
     rw [b0,sA]
    ·rintro σ H6 ⟨x,m,rfl,h6,Y,U,l6⟩
     rw [ba,bg] at Y
     exact k acc H6 m _ (Z.free (O.free t)) h6 Y.rowsI bn λc o d=>U _ _ (O _ _ (Z _ _ d)) (j4 (O _ _ (Z _ _ d)) t)
noncomputable def jc (rs:List Rch) (j:List Int):List Int:=(j.map λr=>y3 rs r.toNat).flatten
theorem gx (rs:List Rch):∀j:List Int,((jc rs j).length:Int)=jD rs j
 | []=>rfl
 | r::j=>by
  rw [xk,<- gx rs j]
  unfold jc
  rw [aQ,mB,ar]
  push_cast
  rfl
theorem Gq {n:Nat}(h:n<=100000):n<sizeLine:=c5 h ⋯
theorem wK (rs:List Rch) (G:List Int) (j:Nat) (r:Int) (h:G[j]? = some r):jc rs (G.take (j+1))=jc rs (G.take j)++y3 rs r.toNat:=by
 unfold jc
 rw [bJ,h,aD,List.flatten_append]
 congr 1
 show [y3 rs r.toNat].flatten=_
 simp
theorem wz {rs:List Rch}(G:∀r∈rs,r.2.length<=100):∀j:List Int,(jc rs j).length<=100*j.length
 | []=>by unfold jc;simp
 | r::j=>by
  have a:=wz G j
  have h1:(y3 rs r.toNat).length<=100:=by
   unfold y3
   rw [ao]
   cases e:rs[r.toNat]? with
   | none=>simp
   | some q=>exact G q (aC e)
  unfold jc at a ⊢
  rw [aQ,mB,ar,bo]
  right
inductive spGround (K:af) (vs:List V) (H:Hp) (Q:VK) (z_3:XK):Prop
 | mk (p a:Addr) (xs:List V) (rs:List Rch) (way:List Int) (_:vs=[.ref p,.ref a]) (_:H p=some (.lst xs)) (_:qd H xs rs) (_: ↥110) (_:H a=some (.lst (way.map V.int))) (_:(∀r∈way,0<=r/\r<rs.length)) (_:way.length<=100) (_:∀l H',H l=none->H' l=some (.lst ((jc rs way).map V.int))->jo H H'->Q (.ref l) H')
theorem xX:FnScope ["_law_reaches_here","_law_road","_law_found","_law_reach","_law_height"] ["_law_reaches_here","_law_road"] (ja yy):=by walk_at "s"
theorem Yj (F:Fun K "_law_ground" "_law_ground" yy f fd):FnOk P w K mg base CX0 1 f fd ["_law_reaches_here","_law_road"] (spGround K):=by
 refine F.ok xX (λY H Q E h=>?_) (λas A outer s H Y Q E O h=>?_)
 ·obtain ⟨p,a,xs,rs,b,rfl,_⟩:=h
  rfl
 ·obtain ⟨p,a,xs,rs,b,rfl,R,I,C,X,S,ac,k⟩:=h
  have ab:=I.length
  refine ⟨_,(j6 (js 2 xX.nd (jB j5))
   (j6 (qA bh rfl (jX K (pv 1)) (jd (i:=3) xX.nd rfl (aR rfl)) (jb (qA bh rfl (uJ K (jp (ql K) (jp (jg K) (pv 0) (pv 3) (λ_ _=>rfl)) j7 (λ_ _=>rfl))) (jd (i:=4) xX.nd rfl (aR rfl)) (jb (qa (zw K bF bz bA qh (pv 2) (j0 (pv 4) j5)))))))
   (jb (jk (pv 2))))),?_⟩
  walk_at "r"
  refine ⟨aB _,λl H1 n u s1=>?_⟩
  have J:=s1 _ _ X
  walk_at "r"
  refine ⟨⟨_,SqL.of J⟩,yf (K:=K) (a:=a) (xs:=b.map V.int) (λj σ H2=>∃x y:Option V,σ=[some (.ref p),some (.ref a),some (.ref l),x,y]/\H2 l=some (.lst ((jc rs (b.take j)).map V.int))/\Ext l H1 H2) ⟨_,_,rfl,u,Ext.refl⟩ ?_ ?_ ?_⟩
  ·rintro j σ H2 hj ⟨x,y,rfl,h2,m⟩
   exact SqL.of (m _ _ J (j4 X n))
  ·rintro j v σ H2 t ⟨x,y,rfl,h2,m⟩
   obtain ⟨r,rfl⟩:=vn t
   have L:b[j]? = some r:=by
    rw [aH] at t
    cases e:b[j]? with
    | none=>rw [e] at t;cases t
    | some y=>rw [e] at t;cases t;rfl
   have hj:j<b.length:=(List.getElem?_eq_some_iff.mp L).1
   have O:=S r (aC L)
   have hi:r.toNat<rs.length:=()
   obtain ⟨v,N,q,g,rfl,Z,T⟩:=(I.keep ((jn.same s1).trans (jn.lst m u))).at (ae hi)
   have am:=C _ (cJ hi)
   have ap:=wz C (b.take j)
   have al:(b.take j).length<=100:=by rw [aY];right
   walk_at "r"
   refine ⟨_,_,_,_,rfl,rfl,SqL.of (m _ _ (s1 _ _ R) (j4 R n)),xg O.1 N,?_⟩
   refine ⟨_,_,_,_,rfl,rfl,SqT.of Z,rfl,?_⟩
   refine ⟨g,rfl,⟨_,SqT.of T⟩,UV (K:=K) (a:=g) (xs:=(rs[r.toNat]'hi).2.map V.int) (λi σ G=>∃y:Option V,σ=[some (.ref p),some (.ref a),some (.ref l),some (.int r),y]/\G l=some (.lst ((jc rs (b.take j)++(rs[r.toNat]'hi).2.take i).map V.int))/\Ext l H2 G) ⟨_,rfl,?_,Ext.refl⟩ ?_ ?_ ?_⟩
   ·rw [iI,bj];exact h2
   ·rintro i σ G an ⟨y,rfl,B,D⟩
    exact SqT.of (jn.lst D h2 _ _ T)
   ·rintro i v σ G d ⟨y,rfl,B,D⟩
    obtain ⟨z,rfl⟩:=vn d
    have M:(rs[r.toNat]'hi).2[i]? = some z:=by
     rw [aH] at d
     cases e:(rs[r.toNat]'hi).2[i]? with
     | none=>rw [e] at d;cases d
     | some y=>rw [e] at d;cases d;rfl
    walk_at "r"
    refine ⟨.inl ⟨rfl,_,SqL.of B⟩,?_⟩
    walk_at "r"
    refine ⟨l,_,_,rfl,rfl,B,?_,?_⟩
    ·rw [ag,ar,aY]
     exact Gq ()
    ·refine ⟨_,rfl,?_,D.trans Ext.put⟩
     rw [j9,bJ,M,<- bR,aD,aD,aD]
     rfl
   ·rintro σ G ⟨y,rfl,B,D⟩
    refine ⟨_,_,rfl,?_,m.trans D⟩
    rw [B,ag,bg,wK rs b j r L,Qd (ae hi)]
  ·rintro σ H2 ⟨x,y,rfl,h2,m⟩
   rw [ag,bg] at h2
   walk_at "r"
   exact k l H2 n h2 λc o U=>m _ _ (s1 _ _ U) (j4 U n)
inductive spWayOf (Pt C:Addr) (vs:List V) (H:Hp) (Q:VK) (E:XK):Prop
 | mk (p:Addr) (xs:List V) (rs:List Rch) (l:Int) (_:vs=[.ref p,.int l]) (_:H p=some (.lst xs)) (_:qd H xs rs) (_:xz rs) (_:rs.length<=60) (_:qJ H Pt) (_:(∀t H' ws (i:Nat),l=i->i<ws.length->qg rs ws->H' t=some (.tup ((ws.getD i []).map V.int))->Ext Pt H H'->qJ H' Pt->Q (.ref t) H')) (_:∀H',(l<0\/ ↥97<=l)->Ext Pt H H'->qJ H' Pt->E (.ref C) none H')
theorem Ji:FnScope ["reaches","lane","ways"] ["reaches","lane"] (ja gG):=by walk_at "s"
theorem YT (nb:Nb2 mg) (G:mg "NoLane" = some (.ref C)) (j:eO K C [.type "ValueError",.type "Exception",.type "BaseException",.type "object"] "ValueError.__new__" = true) (I:Cal P w K mg base 5 "lanes" ["reaches"] (spLanes K Pt)) (F:Fun K "way_of" "way_of" gG f fd):FnOk P w K mg base (CX1 P w) 6 f fd ["reaches","lane"] (spWayOf Pt C):=by
 refine Fun.okX F Ji (λv H Q E h=>?_) (λN A outer s H v Q E x h=>?_)
 ·obtain ⟨p,xs,rs,l,rfl,_⟩:=h
  rfl
 ·obtain ⟨p,xs,rs,l,rfl,y,m,L,t,D,k,e⟩:=h
  refine ⟨_,(j6 (js 2 Ji.nd (je I (x.mono ⋯) rfl ↥53))
   (j6 (jN (xM (zf qC vK j7 (pv 1) (jf (ji K) rfl nb.b_len b9 ↥65))) ↥121 jv)
   (jb (jk (jp (jg K) (pv 2) (pv 1) (λ_ _=>rfl)))))),?_⟩
  walk_at "r"
  refine ⟨p,xs,rs,rfl,y,m,L,t,D,λo H1 out ws R b i q c d=>?_⟩
  have z:out.length=ws.length:=i.length
  have M:(ws.length:Int)=↥97:=by rw [q.length]
  walk_at "r"
  refine qp (λJ=>?_) (λJ=>?_)
  ·walk_at "r"
   refine ⟨_,_,rfl,.inl (SqL.of b),?_⟩
   walk_at "r"
   refine yV (λh1=>?_) (λh1=>?_)
   ·walk_at "r"
    exact ⟨by show 1<=sizeLine;decide,e H1 (.inr ()) c d⟩
   ·have hi:l.toNat<out.length:=()
    obtain ⟨O,g,a,n,B⟩:=Paired.get i (ae hi)
    have u:l=(l.toNat:Int):=()
    walk_at "r"
    refine ⟨_,_,_,_,rfl,rfl,SqL.of b,(by rw [u];exact zN (ae hi)),?_⟩
    rw [n]
    refine k a H1 ws l.toNat u () q ?_ c d
    rw [B,ao,g]
    rfl
  ·walk_at "r"
   refine vW ?_
   walk_at "r"
   exact ⟨by show 1<=sizeLine;decide,e H1 (.inl ()) c d⟩
inductive spHeights (Pt C:Addr) (vs:List V) (H:Hp) (Q:VK) (E:XK):Prop
 | mk (p:Addr) (xs:List V) (rs:List Rch) (l:Int) (_:vs=[.ref p,.int l]) (_:H p=some (.lst xs)) (_:qd H xs rs) (_:xz rs) (_:rs.length<=60) (_: ↥110) (_:qJ H Pt) (_:(∀t H' ws (i:Nat),l=i->i<ws.length->qg rs ws->H t=none->H' t=some (.lst ((jc rs (ws.getD i [])).map V.int))->Ext Pt H H'->qJ H' Pt->Q (.ref t) H')) (_:∀H',(l<0\/ ↥97<=l)->Ext Pt H H'->qJ H' Pt->E (.ref C) none H')
theorem ZI:FnScope ["reaches","lane"] ["reaches","lane"] (ja vB):=by walk_at "s"
theorem Gz {ws:List (List Int)}(L:xz rs) (h:qg rs ws) {a:Nat}(j:a<ws.length):(∀r∈ws.getD a [],0<=r/\r<rs.length)/\(ws.getD a []).length<=rs.length:=by
 rw [ao,ae j]
 obtain ⟨x,b,e⟩:=h.mem (cJ j)
 show (∀r∈ws[a],_)/\ws[a].length<=_
 rw [e]
 exact ⟨zq L x (xD b),by have:=uU L x (xD b);have:=xD b;right⟩
theorem hE {l:List Int}{j:Nat}(h:(l.map V.int)[j]? = some v):∃x,v = .int x/\l[j]? = some x:=by
 rw [aH] at h
 cases e:l[j]? with
 | none=>rw [e] at h;cases h
 | some y=>rw [e] at h;cases h;exact ⟨y,rfl,rfl⟩
theorem QJ (T:qJ H Pt) (e:Ext Pt H H') (j:qJ H' Pt) (n:H' a=none):H a=none:=by
 cases q:H a with
 | none=>rfl
 | some o =>
  by_cases z:a=Pt
  ·obtain ⟨ps,h⟩:=j.ne
   rw [z,h] at n
   cases n
  ·have:=e _ _ q z
   rw [n] at this
   cases this
theorem Zb (nb:Nb2 mg) (G:CalX P w K mg base 6 "way_of" ["reaches","lane"] (spWayOf Pt C)) (F:Fun K "heights" "heights" vB f fd):FnOk P w K mg base (CX1 P w) 7 f fd ["reaches","lane"] (spHeights Pt C):=by
 refine Fun.okX F ZI ↥33 (λa5 A outer s H vs Q E hr h=>?_)
 ·obtain ⟨p,xs,rs,l,rfl,_⟩:=h
  rfl
 ·obtain ⟨p,xs,rs,l,rfl,hp,Y,L,a0,O,X,k,kx⟩:=h
  refine ⟨_,(jb (jk (VF (osc:=(ja vB)) (ON:=["reaches","lane"]) (N:=["reach","height","reaches"]) (own:=2) (caps:=[0]) ⟨rfl,∅,∅,∅,rfl,∅⟩ rfl rfl rfl (uJ K (uW G (hr.mono ⋯) xQ rfl (j0 (pv 0) ↥47))) (λ_ _ _ _ _=>(jd (i:=0) (show bp (["reach","height","reaches"]:List Str) by decide +kernel) rfl (aR rfl))) ↥38 (λ_ _ _ _ _=>(uJ K (jp (ql K) (jp (jg K) (pv 2) (pv 0) (λ_ _=>rfl)) j7 (λ_ _=>rfl)))) (λ_ _ _ _ _=>(jd (i:=1) (show bp (["reach","height","reaches"]:List Str) by decide +kernel) rfl (aR rfl))) ↥38 (λ_ _ _ _ _=>(pv 1))))),?_⟩
  obtain ⟨ps,al⟩:=X.ne
  walk_at "r"
  refine ⟨p,xs,rs,l,rfl,hp,Y,L,a0,X,λt H1 ws i ei hi hR D B S=>?_,λH1 an B S=>kx H1 an B S⟩
  have ac:=B _ _ hp (jm hp al ↥3)
  have am:qd H1 xs rs:=Y.keep (jn.tbl B al)
  obtain ⟨ap,a2⟩:=Gz L hR hi
  have kk:=λt H'=>k t H' ws i ei hi hR
  generalize ws.getD i []=d at *
  walk_at "r"
  refine ⟨⟨_,SqT.of D⟩,λacc b=>?_⟩
  refine Yg (K:=K) (a:=t) (xs:=d.map V.int) (acc:=acc) (λj σ H2=>∃x y:Option V,σ=[x,y,some (.ref p)]/\H2 acc=some (.lst ((jc rs (d.take j)).map V.int))/\Ext acc H1 H2) ?_ ?_ ?_ ?_
  ·exact ⟨none,none,rfl,j9,Ext.put⟩
  ·rintro j σ H2 hj ⟨x,y,rfl,M,e⟩
   exact SqT.of (e _ _ D (j4 D b))
  ·rintro j v σ H2 hv ⟨x,y,rfl,M,e⟩
   obtain ⟨r,rfl,Z⟩:=hE hv
   have a4:=ap r (aC Z)
   have m:r.toNat<rs.length:=()
   obtain ⟨v,az,q,g,rfl,ab,u⟩:=am.at (ae m)
   have aL:=e _ _ ac (j4 ac b)
   have hq:=e _ _ ab (j4 ab b)
   have gl:=wz O (d.take j)
   have jl:(d.take j).length<=60:=by rw [aY];right
   have I:=wK rs d j r Z
   have a1:y3 rs r.toNat=(rs[r.toNat]'m).2:=by
    unfold y3
    rw [ao,ae m]
    rfl
   have U:=O _ (cJ m)
   rw [a1] at I
   generalize (rs[r.toNat]'m).2=hs at u I U
   walk_at "r"
   refine ⟨_,_,_,_,rfl,rfl,SqL.of aL,(by rw [show r=((r.toNat:Nat):Int) by right];exact zN az),?_⟩
   refine ⟨_,_,_,_,rfl,rfl,SqT.of hq,rfl,?_⟩
   refine ⟨g,rfl,⟨_,SqT.of (e _ _ u (j4 u b))⟩,?_⟩
   refine Gn (K:=K) (a:=g) (acc:=acc) (xs:=hs.map V.int) (λn σ T=>∃y:Option V,σ=[some (.int r),y,some (.ref p)]/\T acc=some (.lst ((jc rs (d.take j)++hs.take n).map V.int))/\Ext acc H1 T) ?_ ?_ ?_ ?_
   ·exact ⟨y,rfl,by rw [iI,bj];exact M,e⟩
   ·rintro n σ T hn ⟨y,rfl,J,R⟩
    exact SqT.of (R _ _ u (j4 u b))
   ·rintro n v σ T as ⟨y,rfl,J,R⟩
    obtain ⟨h,rfl,hh⟩:=hE as
    have a3:=(List.getElem?_eq_some_iff.mp hh).1
    walk_at "r"
    refine ⟨_,J,by rw [ag,ar,aY];exact aX (show _<10000 by right) ⋯,some (.int h),rfl,?_,R.trans Ext.put⟩
    rw [j9,bJ,hh,cn,<- bR,aD (l₁:=jc rs (d.take j)++hs.take n)]
    rfl
   ·rintro σ T ⟨y,rfl,J,R⟩
    rw [ag,bg,<- I] at J
    exact ⟨_,_,rfl,J,R⟩
  ·rintro σ H2 ⟨x,y,rfl,M,e⟩
   rw [ag,bg] at M
   exact kk acc H2 (QJ X B S b) M (λc o hc n=>e _ _ (B _ _ hc n) (λz=>by rw [z,QJ X B S b] at hc;cases hc)) (S.extN b e)
noncomputable def ke (G Y I j U:Addr):List (Str×V):=jt "leaps" (.ref U) (jt "years" (.ref j) (jt "slopes" (.ref I) (jt "cycle" (.ref Y) (jt "valley" (.ref G) []))))
theorem kE (I j U G Y:Addr):(ke I j U G Y).lookup ("cycle" : Str)=some (.ref j):=by
 unfold ke
 rw [jy,if_neg ∅,jy,if_neg ∅,jy,if_neg ∅,jy,if_pos rfl]
theorem zV (I Y j G U:Addr):(ke I Y j G U).lookup ("slopes" : Str)=some (.ref j):=by
 unfold ke
 rw [jy,if_neg ∅,jy,if_neg ∅,jy,if_pos rfl]
theorem hV (G Y I j U:Addr):(ke G Y I j U).lookup ("years" : Str)=some (.ref j):=by
 unfold ke
 rw [jy,if_neg ∅,jy,if_pos rfl]
theorem ue (I Y U G j:Addr):(ke I Y U G j).lookup ("leaps" : Str)=some (.ref j):=by
 unfold ke
 rw [jy,if_pos rfl]
theorem Ua (G cy I j U:Addr) {m:Str}(h1:¬m = "leaps") (h2:¬m = "years") (h3:¬m = "slopes") (h4:¬m = "cycle") (Y:¬m = "valley"):(ke G cy I j U).lookup m=none:=by
 unfold ke
 rw [jy,if_neg h1,jy,if_neg h2,jy,if_neg h3,jy,if_neg h4,jy,if_neg Y]
 rfl
theorem qY {m:Str}(h:(¬m="leaps")/\(¬m="years")/\(¬m="slopes")/\(¬m="cycle")/\¬m="valley"):(ke G Y I j U).lookup m=none:=Ua _ _ _ _ _ h.1 h.2.1 h.2.2.1 h.2.2.2.1 h.2.2.2.2
structure IceC (K:af) (C:Addr):Prop where
 cl:Cls K C
 nV:zC K C "valley"
 nC:zC K C "cycle"
 nS:zC K C "slopes"
 nY:zC K C "years"
 nL:zC K C "leaps"
structure IceG where
 dx:Addr
 va:Addr
 cy:Addr
 sl:Addr
 ye:Addr
 le:Addr
 xs:List V
 ys:List V
 zs:List V
 lds:List ↥50
 kvs:List (Key×V)
 rs:List Rch
 rows:List T3
 slopes:List (List Int)
structure IceAt (C:Addr) (H:Hp) (p:Addr) (g:IceG):Prop where
 ob:H p=some (.ins C g.dx (ke g.va g.cy g.sl g.ye g.le))
 va:H g.va=some (.lst g.xs)
 rs:qd H g.xs g.rs
 cy:H g.cy=some (.lst g.ys)
 rows:qP H g.ys g.rows
 sl:H g.sl=some (.lst g.zs)
 slopes:yQ H g.zs g.slopes
 ye:H g.ye=some (.dK g.kvs)
 le:H g.le=some (.lst (g.lds.map λx=>V.ref x.1))
 lds:∀x∈g.lds,H x.1=some (.dK x.2)
theorem IceAt.same {p:Addr}(I:IceAt C H p g) (s:jo H H'):IceAt C H' p g :=
 ⟨s _ _ I.ob,s _ _ I.va,I.rs.keep (jn.same s),s _ _ I.cy,I.rows.imp λ_ _ q=>s _ _ q,s _ _ I.sl,Paired.mapP I.slopes λ_ _ ⟨a,e,q⟩=>⟨a,e,s _ _ q⟩,s _ _ I.ye,s _ _ I.le,λx b=>s _ _ (I.lds x b)⟩
theorem JR (I:IceAt C H p g) {l:Int}(j:0<=l) (h1:l< ↥16):∃a,atI g.zs l=some (.ref a)/\H a=some (.lst ((↥21).map V.int)):=by
 have d:g.zs.length=g.slopes.length:=aP I.slopes
 have hi:l.toNat<g.zs.length:=()
 obtain ⟨w,b,a,e,c⟩:=Paired.get I.slopes (ae hi)
 refine ⟨a,?_,?_⟩
 ·rw [show l=((l.toNat:Nat):Int) by right]
  refine zN ?_
  rw [ae hi,e]
 ·rw [c,ao,b]
  rfl
theorem VR {l:List Int}{n:Nat}(h:n<l.length):(l.map V.int)[n]? = some (V.int (l.getD n 0)):=by
 rw [aH,ao,ae h]
 rfl
inductive spCheckLane (C CN:Addr) (vs:List V) (H:Hp) (Q:VK) (E:XK):Prop
 | mk (p:Addr) (g:IceG) (l:Int) (_:vs=[.ref p,.int l]) (_:IceAt C H p g) (_:(0<=l->l< ↥16->Q .non H)) (_: ↥69)
theorem um:FnScope ["self","lane"] ["self","lane"] (ja xE):=by walk_at "s"
theorem vZ (nb:Nb2 mg) (T:IceC K C) (G:mg "NoLane" = some (.ref U)) (j:eO K U [.type "ValueError",.type "Exception",.type "BaseException",.type "object"] "ValueError.__new__" = true) (F:Fun K "check_lane" "Ice.check_lane" xE f fd):FnOk P w K mg base (CX1 P w) 1 f fd ["self","lane"] (spCheckLane C U):=by
 refine Fun.okX F um (λc H Q E h=>?_) (λe A outer s H c Q E i h=>?_)
 ·obtain ⟨p,g,l,rfl,_⟩:=h
  rfl
 ·obtain ⟨p,g,l,rfl,I,k,a⟩:=h
  have d:g.zs.length=g.slopes.length:=aP I.slopes
  refine ⟨_,(jb (jN (xM (zf qC vK j7 (pv 1) (jf (ji K) rfl nb.b_len b9 (j0 (xo K (pv 0)) j5)))) ↥121 jv)),?_⟩
  walk_at "r"
  refine qp (λb=>?_) (λb=>?_)
  ·walk_at "r"
   refine ⟨p,C,g.dx,_,_,rfl,I.ob,T.cl,T.nS,zV _ _ _ _ _,?_⟩
   walk_at "r"
   refine ⟨_,_,rfl,.inl (SqL.of I.sl),?_⟩
   rw [d]
   walk_at "r"
   refine yV (λh1=>?_) (λh1=>?_)
   ·walk_at "r"
    exact ⟨by show 1<=sizeLine;decide,a (.inr ())⟩
   ·walk_at "r"
    exact k b h1
  ·walk_at "r"
   refine vW ?_
   walk_at "r"
   exact ⟨by show 1<=sizeLine;decide,a (.inl ())⟩
inductive spCheckPlace (C CN CP:Addr) (vs:List V) (H:Hp) (Q:VK) (E:XK):Prop
 | mk (p:Addr) (g:IceG) (l n:Int) (_:vs=[.ref p,.int l,.int n]) (_:IceAt C H p g) (_:(0<=l->l< ↥16->0<=n->n<((↥21).length:Int)->Q .non H)) (_: ↥69) (_:(0<=l->l< ↥16->(n<0\/((↥21).length:Int)<=n)->E (.ref CP) none H))
theorem vI:FnScope ["self","lane","place"] ["self","lane","place"] (ja xq):=by walk_at "s"
theorem vH (nb:Nb2 mg) (T:IceC K C) (U:mg "NoPlace" = some (.ref CP)) (G:eO K CP [.type "ValueError",.type "Exception",.type "BaseException",.type "object"] "ValueError.__new__" = true) (Y:Cls K C) (j:CalMX P w K mg base 1 C "check_lane" ["self","lane"] (spCheckLane C CN)) (F:Fun K "check_place" "Ice.check_place" xq f fd):FnOk P w K mg base (CX1 P w) 2 f fd ["self","lane","place"] (spCheckPlace C CN CP):=by
 refine Fun.okX F vI (λm H Q E h=>?_) (λv A outer s H m Q E q h=>?_)
 ·obtain ⟨p,g,l,n,rfl,_⟩:=h
  rfl
 ·obtain ⟨p,g,l,n,rfl,I,k,o,d⟩:=h
  refine ⟨_,(j6 (qa (yS (pv 0) Y j (q.mono ⋯) xQ ↥47))
   (jb (jN (xM (zf qC vK j7 (pv 2) (jf (ji K) rfl nb.b_len b9 (j0 ↥67 j5)))) (jb (zd bT G U rfl zU rfl (j0 jC j5))) jv))),?_⟩
  walk_at "r"
  refine ⟨p,g.dx,_,rfl,I.ob,qY ∅,?_⟩
  walk_at "r"
  refine ⟨p,g,l,rfl,I,λc b=>?_,λt=>o t⟩
  obtain ⟨a,u,e⟩:=JR I c b
  walk_at "r"
  refine qp (λi=>?_) (λi=>?_)
  ·walk_at "r"
   refine ⟨p,C,g.dx,_,_,rfl,I.ob,T.cl,T.nS,zV _ _ _ _ _,?_⟩
   walk_at "r"
   refine ⟨_,_,_,_,rfl,rfl,SqL.of I.sl,u,?_⟩
   walk_at "r"
   refine ⟨_,_,rfl,.inl (SqL.of e),?_⟩
   rw [ag]
   walk_at "r"
   refine yV (λh1=>?_) (λh1=>?_)
   ·walk_at "r"
    exact ⟨by show 1<=sizeLine;decide,d c b (.inr ())⟩
   ·walk_at "r"
    exact k c b i h1
  ·walk_at "r"
   refine vW ?_
   walk_at "r"
   exact ⟨by show 1<=sizeLine;decide,d c b (.inl ())⟩
inductive spLengthI (C CN:Addr) (vs:List V) (H:Hp) (Q:VK) (E:XK):Prop
 | mk (p:Addr) (g:IceG) (l:Int) (_:vs=[.ref p,.int l]) (_:IceAt C H p g) (_:(0<=l->l< ↥16->Q (.int ((↥21).length:Int)) H)) (_: ↥69)
theorem kF:FnScope ["self","lane"] ["self","lane"] (ja zW):=by walk_at "s"
theorem gz (nb:Nb2 mg) (T:IceC K C) (G:Cls K C) (j:CalMX P w K mg base 1 C "check_lane" ["self","lane"] (spCheckLane C U)) (F:Fun K "length" "Ice.length" zW f fd):FnOk P w K mg base (CX1 P w) 2 f fd ["self","lane"] (spLengthI C U):=by
 refine Fun.okX F kF (λe H Q E h=>?_) (λq A outer s H e Q E m h=>?_)
 ·obtain ⟨p,g,l,rfl,_⟩:=h
  rfl
 ·obtain ⟨p,g,l,rfl,I,k,i⟩:=h
  refine ⟨_,(j6 (qa (yS (pv 0) G j (m.mono ⋯) xQ ↥47))
   (jb (jk (jf (ji K) rfl nb.b_len b9 (j0 ↥67 j5))))),?_⟩
  walk_at "r"
  refine ⟨p,g.dx,_,rfl,I.ob,qY ∅,?_⟩
  walk_at "r"
  refine ⟨p,g,l,rfl,I,λc b=>?_,λn=>i n⟩
  obtain ⟨a,o,d⟩:=JR I c b
  walk_at "r"
  refine ⟨p,C,g.dx,_,_,rfl,I.ob,T.cl,T.nS,zV _ _ _ _ _,?_⟩
  walk_at "r"
  refine ⟨_,_,_,_,rfl,rfl,SqL.of I.sl,o,?_⟩
  walk_at "r"
  refine ⟨_,_,rfl,.inl (SqL.of d),?_⟩
  rw [ag]
  exact k c b
inductive spHeightI (C CN CP:Addr) (vs:List V) (H:Hp) (Q:VK) (E:XK):Prop
 | mk (p:Addr) (g:IceG) (l n:Int) (_:vs=[.ref p,.int l,.int n]) (_:IceAt C H p g) (_:(0<=l->l< ↥16->0<=n->n<((↥21).length:Int)->Q (.int ((↥21).getD n.toNat 0)) H)) (_: ↥69) (_:(0<=l->l< ↥16->(n<0\/((↥21).length:Int)<=n)->E (.ref CP) none H))
theorem gy:FnScope ["self","lane","place"] ["self","lane","place"] (ja y9):=by walk_at "s"
theorem kH (nb:Nb2 mg) (T:IceC K C) (G:Cls K C) (j:CalMX P w K mg base 2 C "check_place" ["self","lane","place"] (spCheckPlace C Y U)) (F:Fun K "height" "Ice.height" y9 f fd):FnOk P w K mg base (CX1 P w) 3 f fd ["self","lane","place"] (spHeightI C Y U):=by
 refine Fun.okX F gy (λi H Q E h=>?_) (λx A outer s H i Q E u h=>?_)
 ·obtain ⟨p,g,l,n,rfl,_⟩:=h
  rfl
 ·obtain ⟨p,g,l,n,rfl,I,k,t,q⟩:=h
  refine ⟨_,(j6 (qa (yS (pv 0) G j (u.mono ⋯) xQ (j0 (pv 1) ↥65)))
   (jb (jk (jp (jg K) ↥67 (pv 2) (λ_ _=>rfl))))),?_⟩
  walk_at "r"
  refine ⟨p,g.dx,_,rfl,I.ob,qY ∅,?_⟩
  walk_at "r"
  refine ⟨p,g,l,n,rfl,I,λc b o m=>?_,λd=>t d,λc b d=>q c b d⟩
  obtain ⟨a,v,e⟩:=JR I c b
  walk_at "r"
  refine ⟨p,C,g.dx,_,_,rfl,I.ob,T.cl,T.nS,zV _ _ _ _ _,?_⟩
  walk_at "r"
  refine ⟨_,_,_,_,rfl,rfl,SqL.of I.sl,v,?_⟩
  walk_at "r"
  refine ⟨_,_,_,_,rfl,rfl,SqL.of e,(by rw [show n=((n.toNat:Nat):Int) by right];exact zN (VR ())),?_⟩
  exact k c b o m
inductive spCheckRound (CR:Addr) (vs:List V) (H:Hp) (Q:VK) (E:XK):Prop
 | mk (p:Addr) (xs:List V) (ts:List T3) (_:vs=[.ref p]) (_:H p=some (.lst xs)) (_:qP H xs ts) (_:ts.length<=1000) (_:(∀H',gr ts=true->jo H H'->Q .non H')) (_:∀H',gr ts=false->jo H H'->E (.ref CR) none H')
theorem kO:FnScope ["rows"] ["rows"] (ja y6):=by walk_at "s"
theorem gW {CR:Addr}(nb:Nb2 mg) (G:mg "BadRound" = some (.ref CR)) (j:eO K CR [.type "ValueError",.type "Exception",.type "BaseException",.type "object"] "ValueError.__new__" = true) (I:Cal P w K mg base 2 "is_round" ["rows"] (spRound K)) (F:Fun K "check_round" "check_round" y6 f fd):FnOk P w K mg base (CX1 P w) 3 f fd ["rows"] (spCheckRound CR):=by
 refine Fun.okX F kO (λc H Q E h=>?_) (λl A outer s H c Q E g h=>?_)
 ·obtain ⟨p,xs,ts,rfl,_⟩:=h
  rfl
 ·obtain ⟨p,xs,ts,rfl,i,b,a,k,d⟩:=h
  refine ⟨_,(jb (jN (xM (zZ (je I (g.mono ⋯) rfl ↥53))) ↥121 jv)),?_⟩
  walk_at "r"
  refine ⟨p,xs,ts,rfl,i,b,a,λH1 s1=>?_⟩
  cases e:gr ts with
  | true =>
   walk_at "r"
   exact k H1 e s1
  | false =>
   walk_at "r"
   exact ⟨by show 1<=sizeLine;decide,d H1 e s1⟩
noncomputable def Kp (p Pt:Addr) (H H':Hp):Prop:=∀c o,H c=some o->c≠p->c≠Pt->H' c=some o
theorem Kp.trans {p:Addr}(a:Kp p Pt H H1) (b:Kp p Pt H1 H2):Kp p Pt H H2:=λc o h n m=>b c o (a c o h n m) n m
theorem Kp.of_same {p:Addr}(s:jo H H'):Kp p Pt H H':=λc o h _ _=>s c o h
theorem Kp.of_ext {p:Addr}(s:Ext Pt H H'):Kp p Pt H H':=λc o h _ m=>s c o h m
theorem Kp.put {p:Addr}:Kp p Pt H (upd H p o):=λc _ h n _=>by rw [j8 n];exact h
theorem Kp.at {p a:Addr}(k:Kp p Pt H H') (h:H a=some o) (G:H p=some u) (j:H Pt=some (.tbl ps)) (n:o≠u) (m:o≠.tbl ps):H' a=some o:=k _ _ h (jm h G n) (jm h j m)
theorem Kp.free {p a:Addr}(k:Kp p Pt H H') (h:H' a=none) (G:H' p=some u) (j:H' Pt=some I):H a=none:=by
 cases e:H a with
 | none=>rfl
 | some o =>
  have:=k a o e (λz=>by rw [z,G] at h;cases h) (λz=>by rw [z,j] at h;cases h)
  rw [h] at this
  cases this
theorem uL {fs:List (Str×V)}(T:qJ H Pt) (j:H p=some ↥116):qJ (upd H p o) Pt:=by
 rcases T with h | ⟨c,h,h'⟩
 ·exact .inl (by rw [j8 (jm h j ↥3)];exact h)
 ·exact .inr ⟨c,by rw [j8 (jm h j ↥3)];exact h,by rw [j8 (jm h' j ↥3)];exact h'⟩
theorem jn.kp {p dx:Addr}{fs:List (Str×V)}(k:Kp p Pt H H') (G:H p=some ↥116) (j:H Pt=some (.tbl ps)):jn H H':=λ_ _ h=>k.at h G j ↥3 ↥3
theorem pm {α β:Type}{F:α->β->Prop}:∀{l₁:List α}{j:List β},cW F l₁ j->∀v∈l₁,∃w,F v w
 | _,_,.nil,v,h=>by cases h
 | _,_,.cons q r,v,h=>by
  rcases List.mem_cons.mp h with rfl | z
  ·exact ⟨_,q⟩
  ·exact pm r v z
theorem pmE {H H0:Hp}{a0:Addr}(r:cW (λv (w:List Int)=>∃a,v=V.ref a/\H a=some (.lst (w.map V.int))/\H0 a=none/\a≠a0) zs j):∀a,V.ref a∈zs->H0 a=none/\a≠a0:=λa h=>by
 obtain ⟨w,b,e,_,z⟩:=pm r _ h
 cases e
 exact z
structure IceNew (C Pt:Addr) (H H':Hp) (p:Addr) (g:IceG):Prop where
 at_:IceAt C H' p g
 keep:∀c o,H c=some o->c≠p->c≠Pt->H' c=some o
 va:H g.va=none
 cy:H g.cy=none
 sl:H g.sl=none
 ye:H g.ye=none
 le:H g.le=none
 zs:∀a,V.ref a∈g.zs->H a=none
 kvs:g.kvs=[]
 lds:∀x∈g.lds,H x.1=none/\x.2=[]
 ll:g.lds.length=g.slopes.length
 nd:(g.lds.map (·.1)).Nodup
 ny:∀x∈g.lds,x.1≠g.ye
 sl2:∃ws,qg g.rs ws/\g.slopes=ws.map (jc g.rs)
inductive spInit (C CV CR Pt:Addr) (vs:List V) (H:Hp) (Q:VK) (E:XK):Prop
 | mk (p dx r q:Addr) (xs ys:List V) (rs:List Rch) (ts:List T3) (_:vs=[.ref p,.ref r,.ref q]) (_:H p=some (.ins C dx [])) (_:H r=some (.lst xs)) (_:qd H xs rs) (_:H q=some (.lst ys)) (_:qP H ys ts) (_: ↥110) (_:rs.length<=60) (_:ts.length<=1000) (_:qJ H Pt) (_:(∀H' g,zR rs=true->gr ts=true->IceNew C Pt H H' p g->g.rs=rs->g.rows=ts->g.xs=xs->g.ys=ys->qJ H' Pt->Q .non H')) (_:(∀H',zR rs=false->Ext Pt H H'->qJ H' Pt->E (.ref CV) none H')) (_:(∀H',zR rs=true->gr ts=false->Ext Pt H H'->qJ H' Pt->E (.ref CR) none H'))
theorem wq:FnScope ["self","reaches","rows"] ["self","reaches","rows"] (ja qM):=by walk_at "s"
theorem wv {f CR CN Pt:Addr}{fd:FuncData}(nb:Nb2 mg) (T:IceC K C) (U:mg "BadValley" = some (.ref CV)) (I:eO K CV [.type "ValueError",.type "Exception",.type "BaseException",.type "object"] "ValueError.__new__" = true)
  (Y:Cal P w K mg base 6 "is_valley" ["reaches"] (spValley K Pt)) (G:CalX P w K mg base 3 "check_round" ["rows"] (spCheckRound CR)) (a7:Cal P w K mg base 5 "lanes" ["reaches"] (spLanes K Pt)) (al:Cal P w K mg base 7 "heights" ["reaches","lane"] (λvs H Q _=>spHeights Pt CN vs H Q E0))
  (F:Fun K "__init__" "Ice.__init__" qM f fd):FnOk P w K mg base (CX1 P w) 8 f fd ["self","reaches","rows"] (spInit C CV CR Pt):=by
 refine Fun.okX F wq ↥33 (λd0 A outer s H vs Q E hr h=>?_)
 ·obtain ⟨p,dx,r,q,xs,ys,rs,ts,rfl,_⟩:=h
  rfl
 ·obtain ⟨p,dx,r,q,xs,ys,rs,ts,rfl,hp,a3,ab,hq,cm,bs,a5,b5,hT,k,kv,kr⟩:=h
  obtain ⟨ps,g⟩:=hT.ne
  refine ⟨_,(j6 (jN (xM (zZ (je Y (hr.mono ⋯) rfl ↥47))) (jb (zd bT I U rfl zU rfl (j0 jC j5))) jv)
   (j6 (qa (uW G (hr.mono ⋯) xQ rfl ↥65))
   (j6 (ut K (pv 0) (qN (qH K) rfl nb.b_list ck ↥47))
   (j6 (ut K (pv 0) (qN (qH K) rfl nb.b_list ck ↥65))
   (j6 (ut K (pv 0) (qc (osc:=(ja qM)) (ON:=["self","reaches","rows"]) (N:=["lane","reaches"]) (own:=1) (caps:=[1]) ⟨rfl,∅,∅,∅,rfl,∅⟩ rfl rfl rfl (qy rfl nb.b_range (j0 (jf (ji K) rfl nb.b_len b9 (j0 (je a7 (hr.mono ⋯) rfl ↥47) j5)) j5)) (λ_ _ _ _ _=>(jd (i:=0) (show bp (["lane","reaches"]:List Str) by decide +kernel) rfl (aR rfl))) ↥38 (λ_ _ _ _ _=>(je al (hr.mono ⋯) rfl (j0 (pv 1) ↥53)))))
   (j6 (ut K (pv 0) uz)
   (jb (ut K (pv 0) (qc (osc:=(ja qM)) (ON:=["self","reaches","rows"]) (N:=["slope"]) (own:=1) (caps:=[]) ⟨rfl,∅,∅,∅,rfl,∅⟩ rfl rfl rfl (jX K (xo K (pv 0))) (λ_ _ _ _ _=>(jd (i:=0) (show bp (["slope"]:List Str) by decide +kernel) rfl (aR rfl))) ↥38 (λ_ _ _ _ _=>uz)))))))))),?_⟩
  walk_at "r"
  refine ⟨r,xs,rs,rfl,a3,ab,bs,a5,hT,λH1 X1 T1=>?_⟩
  cases eg:zR rs with
  | false =>
   walk_at "r"
   exact ⟨by show 1<=sizeLine;decide,kv H1 eg X1 T1⟩
  | true =>
   have am:∀{a:Addr} {o:HO},H a=some o->(∀ps,o≠.tbl ps)->H1 a=some o:=λ{a o} h n=>X1 _ _ h (jm h g (n _))
   have cL:=am hp ↥4
   have cr:=am a3 ↥4
   have cs:=am hq ↥4
   have c8:qd H1 xs rs:=ab.keep (jn.tbl X1 g)
   have be:qP H1 ys ts:=cm.imp λa t e=>am e ↥4
   walk_at "r"
   refine ⟨q,ys,ts,rfl,cs,be,b5,λH2 bv Z=>?_,λH2 bv Z=>kr H2 eg bv (X1.trans (Ext.of_same Z)) (T1.same Z)⟩
   have L:xz rs:=qm (by unfold zR at eg;rw [bt,bt] at eg;exact eg.2.1)
   have k2:Kp p Pt H H2:=(Kp.of_ext X1).trans (Kp.of_same Z)
   have a4:=Z _ _ cL
   have T2:=T1.same Z
   walk_at "r"
   refine ⟨_,_,rfl,.inl (SqL.of (Z _ _ cr)),λva H3 a9 ch s3=>?_⟩
   have bl:=s3 _ _ a4
   have c4:=T2.same s3
   have k3:=k2.trans (Kp.of_same s3)
   obtain ⟨_,bq⟩:=T2.ne
   have dn:=k2.free a9 a4 bq
   walk_at "r"
   refine ⟨p,C,dx,_,rfl,bl,T.cl,T.nV,⋯,?_⟩
   have Ta:qJ (upd H3 p ↥77) Pt:=uL c4 bl
   have ka:=k3.trans (Kp.put (p:=p) (Pt:=Pt) (o:=HO.ins C dx (jt "valley" (V.ref va) [])))
   have pa:upd H3 p ↥77 p=some ↥77:=j9
   have aL:upd H3 p ↥77 va=some (HO.lst xs):=by rw [j8 (j4 a4 a9).symm];exact ch
   clear k2 k3 cL cr cs c8 be am X1 T1 Z a4 T2 s3 bl c4 ch a9 bq
   generalize upd H3 p ↥77=Ha at *
   obtain ⟨_,ap⟩:=Ta.ne
   have ce:va≠Pt:=jm aL ap ↥3
   have az:va≠p:=jm aL pa ↥3
   walk_at "r"
   refine ⟨_,_,rfl,.inl (SqL.of (ka.at hq hp g ↥3 ↥3)),λcy H4 b1 c3 s4=>?_⟩
   have bk:=s4 _ _ pa
   have T4:=Ta.same s4
   have dD:=ka.free b1 pa ap
   walk_at "r"
   refine ⟨p,C,dx,_,rfl,bk,T.cl,T.nC,c5 (jZ _ _ _) ⋯,?_⟩
   have kb:=(ka.trans (Kp.of_same s4)).trans (Kp.put (p:=p) (Pt:=Pt) (o:=HO.ins C dx (jt "cycle" (V.ref cy) (jt "valley" (V.ref va) []))))
   have Tb:qJ (upd H4 p ↥20) Pt:=uL T4 bk
   have pb:upd H4 p ↥20 p=some ↥20:=j9
   have cd:upd H4 p ↥20 va=some (HO.lst xs):=by rw [j8 az];exact s4 _ _ aL
   have a6:upd H4 p ↥20 cy=some (HO.lst ys):=by rw [j8 (j4 pa b1).symm];exact c3
   clear ka Ta pa aL s4 bk T4 b1 c3 ap
   generalize upd H4 p ↥20=Hb at *
   obtain ⟨_,an⟩:=Tb.ne
   have c2:cy≠Pt:=jm a6 an ↥3
   have b0:cy≠p:=jm a6 pb ↥3
   have pP:p≠Pt:=jm pb an ↥3
   walk_at "r"
   refine ⟨r,xs,rs,rfl,kb.at a3 hp g ↥3 ↥3,ab.keep (jn.kp kb hp g),L,a5,Tb,λo H5 out ws ho c0 hw hR X5 T5=>?_⟩
   walk_at "r"
   refine ⟨_,_,rfl,.inl (SqL.of c0),?_⟩
   have da:out.length=ws.length:=hw.length
   have dT:ws.length<=60:=by
    rw [hR.length]
    unfold ju
    exact aN (bU _ _) (by rw [bQ];exact a5)
   refine ⟨(out.length:Int),rfl,(),(),λacc b=>?_⟩
   obtain ⟨_,j⟩:=T5.ne
   have O:Kp p Pt H H5:=kb.trans (Kp.of_ext X5)
   have u:=X5 _ _ pb pP
   have a8:=X5 _ _ cd ce
   have b2:=X5 _ _ a6 c2
   have a2:H5 r=some (.lst xs):=O.at a3 hp g ↥3 ↥3
   have bd:qd H5 xs rs:=ab.keep (jn.kp O hp g)
   have b4:Pt≠acc:=j4 j b
   refine xV (lo:=0) (n:=((out.length:Int)).toNat) (acc:=acc) (λi σ H6=>∃(x:Option V) (zs:List V),σ=[x,some (.ref r)]/\H6 acc=some (.lst zs)/\zs.length=i/\cW (λv (w:List Int)=>∃a,v=V.ref a/\H6 a=some (.lst (w.map V.int))/\H5 a=none/\a≠acc) zs ((ws.take i).map (jc rs))/\Kp acc Pt H5 H6/\qJ H6 Pt) ?_ ?_ ?_
   ·exact ⟨none,[],rfl,j9,rfl,.nil,Kp.put,T5.extN b Ext.put⟩
   ·rintro i σ H6 hi ⟨x,zs,rfl,h6,hz,r6,D,T6⟩
    obtain ⟨_,as⟩:=T6.ne
    have iw:i<ws.length:=()
    walk_at "r"
    refine ⟨r,xs,rs,_,rfl,D _ _ a2 (j4 a2 b) (jm a2 j ↥3),bd.keep (λa o h=>D _ _ h (j4 h b) (jm h j ↥3)),L,a5,bs,T6,λt H7 dF i' ei dV dy ht dt X7 T7=>?_,λH' hb _ _=>?_⟩
    ·obtain rfl:=hR.unique dy
     obtain rfl:i'=i:=()
     have h7:=X7 _ _ h6 b4.symm
     have ta:t≠acc:=(j4 h6 ht).symm
     have tP:t≠Pt:=(j4 as ht).symm
     refine ⟨zs,h7,jj (),some (.int (0+(i':Int))),zs++[.ref t],rfl,j9,by rw [ar,hz];rfl,?_,?_,?_⟩
     ·rw [qG (jc rs) ws i' (ws.getD i' []) (by rw [ao,ae iw];rfl)]
      refine cE (Paired.mapP r6 λv wy ⟨a,e,J,h0,na⟩=>⟨a,e,?_,h0,na⟩) ⟨t,rfl,by rw [j8 ta];exact dt,D.free ht h6 as,ta⟩
      rw [j8 na]
      exact X7 _ _ J (jm J as ↥3)
     ·exact (D.trans (Kp.of_ext X7)).trans Kp.put
     ·exact T7.ext h7 Ext.put
    ·have:=hR.length
     exact absurd hb ()
   ·rintro σ H6 ⟨x,zs,rfl,h6,hz,r6,D,T6⟩
    rw [cP,da,bg] at r6
    have f6:=pmE r6
    have bi:=D _ _ u (j4 u b) pP
    have kc:Kp p Pt H (upd H6 p ↥122):=λc o h n m=>by
     rw [j8 n]
     have:=O c o h n m
     exact D _ _ this (j4 this b) m
    have b3:acc≠p:=(j4 u b).symm
    have db:=O.free b u j
    have dc:∀a,V.ref a∈zs->H a=none:=λa z=>O.free (f6 a z).1 u j
    walk_at "r"
    refine ⟨p,C,dx,_,rfl,bi,T.cl,T.nS,c5 (aN (jZ _ _ _) (eW (jZ _ _ _))) ⋯,?_⟩
    have Tc:qJ (upd H6 p ↥122) Pt:=uL T6 bi
    have pc:upd H6 p ↥122 p=some ↥122:=j9
    have cb:upd H6 p ↥122 va=some (HO.lst xs):=by rw [j8 az];exact D _ _ a8 (j4 a8 b) ce
    have c1:upd H6 p ↥122 cy=some (HO.lst ys):=by rw [j8 b0];exact D _ _ b2 (j4 b2 b) c2
    have ci:upd H6 p ↥122 acc=some (HO.lst zs):=by rw [j8 b3];exact h6
    have bc:yQ (upd H6 p ↥122) zs (ws.map (jc rs)):=Paired.mapP r6 λv wy ⟨a,e,J,h0,na⟩=>⟨a,e,by rw [j8 (j4 u h0).symm];exact J⟩
    clear r6 f6 D T6 h6 bi O u a8 b2 a2 bd X5 T5 kb Tb pb cd a6 an b4 b ho c0 hw j
    generalize upd H6 p ↥122=M at *
    walk_at "r"
    intro ye a1
    obtain ⟨_,bn⟩:=Tc.ne
    have dd:=kc.free a1 pc bn
    have b6:ye≠p:=(j4 pc a1).symm
    have s9:jo M (upd M ye (.dK [])):=jo.new a1
    walk_at "r"
    refine ⟨p,C,dx,_,rfl,s9 _ _ pc,T.cl,T.nY,c5 (aN (jZ _ _ _) (eW (aN (jZ _ _ _) (eW (jZ _ _ _))))) ⋯,?_⟩
    have B:∀c o,M c=some o->c≠p->↥14 c=some o:=λc o h n=>by rw [j8 n];exact s9 _ _ h
    have kd:Kp p Pt H ↥14:=(kc.trans (Kp.of_same s9)).trans Kp.put
    have Td:qJ ↥14 Pt:=uL (Tc.same s9) (s9 _ _ pc)
    have pd: ↥14 p=some (HO.ins C dx (jt "years" (V.ref ye) ↥0)):=j9
    have dk:=B _ _ cb az
    have dz:=B _ _ c1 b0
    have a0:=B _ _ ci b3
    have ca: ↥14 ye=some (.dK []):=by rw [j8 b6];exact j9
    have ba:yQ ↥14 zs (ws.map (jc rs)):=Paired.mapP bc λv wy ⟨a,e,J⟩=>⟨a,e,B _ _ J (jm J pc ↥3)⟩
    clear B kc Tc pc cb c1 ci bc a1 bn s9
    generalize ↥14=Hd at *
    obtain ⟨_,bm⟩:=Td.ne
    walk_at "r"
    refine ⟨p,C,dx,_,_,rfl,pd,T.cl,T.nS,(by rw [jy,if_neg ∅,jy,if_pos rfl]),?_⟩
    walk_at "r"
    refine ⟨⟨_,SqL.of a0⟩,λle R=>?_⟩
    have dp:le≠p:=(j4 pd R).symm
    have ds:=kd.free R pd bm
    have zl:zs.length<=60:=()
    refine qv (K:=K) (a:=acc) (xs:=zs) (acc:=le) (λi σ He=>∃(x:Option V) (lds:List ↥50),σ=[x]/\He le=some (.lst (lds.map λx=>V.ref x.1))/\lds.length=i/\(∀x∈lds,He x.1=some (.dK x.2)/\x.2=[]/\Hd x.1=none/\x.1≠le)/\(lds.map (·.1)).Nodup/\Ext le Hd He) ?_ ?_ ?_ ?_
    ·exact ⟨none,[],rfl,j9,rfl,(λx z=>by cases z),eV,Ext.put⟩
    ·rintro i σ He hi ⟨x,lds,rfl,he,hl,X,nn,e⟩
     exact SqL.of (e _ _ a0 (j4 a0 R))
    ·rintro i v σ He hv ⟨x,lds,rfl,he,hl,X,nn,e⟩
     have hi:=(List.getElem?_eq_some_iff.mp hv).1
     walk_at "r"
     intro d ac
     have dl:d≠le:=(j4 he ac).symm
     refine ⟨_,(by rw [j8 (cV dl)];exact he),by rw [ag];exact jj (),some v,lds++[(d,[])],rfl,(by rw [j9,aD];rfl),(by rw [ar,hl];rfl),λy hy=>?_,?_,λc o hc n=>?_⟩
     ·rcases List.mem_append.mp hy with z | z
      ·obtain ⟨h1,h2,h3,h4⟩:=X y z
       exact ⟨by rw [j8 h4,j8 (j4 h1 ac)];exact h1,h2,h3,h4⟩
      ·obtain rfl:y=(d,[]):=by simpa using z
       exact ⟨by rw [j8 dl];exact j9,rfl,e.free ac dl,dl⟩
     ·rw [aD]
      refine uK nn λz=>?_
      obtain ⟨y,hy,ey⟩:=List.mem_map.mp z
      have:=(X y hy).1
      rw [ey,ac] at this
      cases this
     ·rw [j8 n,j8 (j4 (e c o hc n) ac)]
      exact e c o hc n
    ·rintro σ He ⟨x,lds,rfl,he,hl,X,nn,e⟩
     have ct:=e _ _ pd (j4 pd R)
     walk_at "r"
     refine ⟨p,C,dx,_,rfl,ct,T.cl,T.nL,c5 (aN (jZ _ _ _) (eW (aN (jZ _ _ _) (eW (aN (jZ _ _ _) (eW (jZ _ _ _))))))) ⋯,?_⟩
     have l:∀c o,Hd c=some o->c≠p->upd He p (HO.ins C dx (jt "leaps" (V.ref le) (jt "years" (V.ref ye) ↥0))) c=some o:=λc o h n=>by rw [j8 n];exact e _ _ h (j4 h R)
     have kf:Kp p Pt H (upd He p (HO.ins C dx (jt "leaps" (V.ref le) (jt "years" (V.ref ye) ↥0)))):=λc o h n m=>l c o (kd c o h n m) n
     have du:∀x∈lds,x.1≠p:=λx S=>(j4 pd (X x S).2.2.1).symm
     refine k _ { dx:=dx,va:=va,cy:=cy,sl:=acc,ye:=ye,le:=le,xs:=xs,ys:=ys,zs:=zs,lds:=lds,kvs:=[],rs:=rs,rows:=ts,slopes:=ws.map (jc rs) } eg bv ⟨⟨j9,l _ _ dk az,ab.keep (jn.kp kf hp g),l _ _ dz b0,cm.imp λa t e=>kf.at e hp g ↥3 ↥3,l _ _ a0 b3,Paired.mapP ba λv wy ⟨a,e,J⟩=>⟨a,e,l _ _ J (jm J pd ↥3)⟩,l _ _ ca b6,(by rw [j8 dp];exact he),λx S=>by rw [j8 (du x S)];exact (X x S).1⟩,kf,dn,dD,db,dd,ds,dc,rfl,λx S=>⟨kd.free (X x S).2.2.1 pd bm,(X x S).2.1⟩,hl.trans (aP ba),nn,λx S=>(j4 ca (X x S).2.2.1).symm,ws,hR,rfl⟩ rfl rfl rfl rfl (uL (Td.extN R e) ct)
inductive spCheckTold (CY:Addr) (vs:List V) (H:Hp) (Q:VK) (E:XK):Prop
 | mk (y:Int) (_:vs=[.int y]) (_:(0<=y->y<=99->Q .non H)/\(y<0\/99<y->E (.ref CY) none H))
theorem Jh:FnScope ["year"] ["year"] (ja yN):=by walk_at "s"
theorem Jf (j:mg "LAST_TOLD" = some (.int 99 u0)) (I:mg "BadYear" = some (.ref U)) (G:eO K U [.type "ValueError",.type "Exception",.type "BaseException",.type "object"] "ValueError.__new__" = true) (F:Fun K "check_told" "check_told" yN f fd):FnOk P w K mg base (CX1 P w) 1 f fd ["year"] (spCheckTold U):=by
 refine Fun.okX F Jh (λc H Q E h=>?_) (λd A outer s H c Q E e h=>?_)
 ·obtain ⟨y,rfl,_⟩:=h
  rfl
 ·obtain ⟨y,rfl,k,a⟩:=h
  refine ⟨_,(jb (jN (xM (zf qC qC j7 (pv 0) (xL (v:=V.int 99) rfl j ⟨_,rfl⟩))) (jb (zd bT G I rfl zU rfl (j0 jC j5))) jv)),?_⟩
  walk_at "r"
  refine qp (λb=>?_) (λb=>?_)
  ·walk_at "r"
   refine yV (λh1=>?_) (λh1=>?_)
   ·walk_at "r"
    exact ⟨by show 1<=sizeLine;decide,a (.inr ())⟩
   ·walk_at "r"
    exact k b h1
  ·walk_at "r"
   refine vW ?_
   walk_at "r"
   exact ⟨by show 1<=sizeLine;decide,a (.inl ())⟩
theorem IceAt.years {p:Addr}{g:IceG}{kvs:List (Key×V)}(I:IceAt C H p g) (j:∀x∈g.lds,x.1≠g.ye) (e:Ext g.ye H H') (h:H' g.ye=some (.dK kvs)):IceAt C H' p { g with kvs:=kvs }:=by
 have f:∀{c:Addr} {o:HO},H c=some o->o≠.dK g.kvs->H' c=some o:=λh n=>e _ _ h (jm h I.ye n)
 exact ⟨f I.ob ↥3,f I.va ↥3,I.rs.keep λ_ _ q=>f q ↥3,f I.cy ↥3,I.rows.imp λ_ _ q=>f q ↥3,f I.sl ↥3,Paired.mapP I.slopes λv w ⟨a,d,q⟩=>⟨a,d,f q ↥3⟩,h,f I.le ↥3,λx b=>e _ _ (I.lds x b) (j x b)⟩
inductive spTell (C CY CW:Addr) (vs:List V) (H:Hp) (Q:VK) (E:XK):Prop
 | mk (p t:Addr) (g:IceG) (y:Int) (r:T3) (_:vs=[.ref p,.int y,.ref t]) (_:IceAt C H p g) (_:(∀x∈g.lds,x.1≠g.ye)) (_:H t=some (vJ r)) (_:g.kvs.length<=1000) (_:(∀H',0<=y->y<=99->good r=true->Ext g.ye H H'->IceAt C H' p { g with kvs:=qK g.kvs (.inl y) (.ref t) }->Q .non H')) (_:(y<0\/99<y->E (.ref CY) none H)) (_:(0<=y->y<=99->good r=false->E (.ref CW) none H))
theorem Qf:FnScope ["self","year","row"] ["self","year","row"] (ja vg):=by walk_at "s"
theorem Qy (nb:Nb2 mg) (T:IceC K C) (G:mg "BadWeather" = some (.ref CW)) (j:eO K CW [.type "ValueError",.type "Exception",.type "BaseException",.type "object"] "ValueError.__new__" = true) (Y:CalX P w K mg base 1 "check_told" ["year"] (spCheckTold CY)) (U:Cal P w K mg base 1 "is_weather" ["row"] spGood) (F:Fun K "tell" "Ice.tell" vg f fd):FnOk P w K mg base (CX1 P w) 2 f fd ["self","year","row"] (spTell C CY CW):=by
 refine Fun.okX F Qf (λd H Q E h=>?_) (λq A outer s H d Q E a h=>?_)
 ·obtain ⟨p,t,g,y,r,rfl,_⟩:=h
  rfl
 ·obtain ⟨p,t,g,y,r,rfl,I,m,l,n,k,e,i⟩:=h
  refine ⟨_,(j6 (qa (uW Y (a.mono ⋯) xQ rfl ↥47))
   (j6 (jN (xM (zZ (je U (a.mono ⋯) rfl ↥65))) ↥121 jv)
   (jb (yt (qk a) (xo K (pv 0)) (pv 1) (pv 2) rfl)))),?_⟩
  walk_at "r"
  refine ⟨λb h1=>?_,λo=>e o⟩
  walk_at "r"
  refine ⟨t,r,rfl,l,?_⟩
  cases c:good r with
  | false =>
   walk_at "r"
   exact ⟨by show 1<=sizeLine;decide,i b h1 c⟩
  | true =>
   walk_at "r"
   refine ⟨p,C,g.dx,_,_,rfl,I.ob,T.cl,T.nY,hV _ _ _ _ _,?_⟩
   walk_at "r"
   refine ⟨g.ye,_,rfl,wt.k (k:=.inl y) I.ye (jj n),?_⟩
   exact k _ b h1 c Ext.put (I.years m Ext.put j9)
noncomputable def yX (l:List ↥50) (n:Nat) (kvs:List (Key×V)):List ↥50:=l.set n ((l.getD n (0,[])).1,kvs)
theorem Yv (l:List ↥50) (n:Nat) (kvs:List (Key×V)):(yX l n kvs).map (λx=>V.ref x.1)=l.map λx=>V.ref x.1:=by
 unfold yX
 rw [List.map_set]
 by_cases h:n<l.length
 ·rw [ao,ae h]
  refine mw λi=>?_
  rw [iL]
  by_cases e:n=i
  ·subst e
   rw [if_pos rfl,ag,if_pos h,aH,ae h]
   rfl
  ·rw [if_neg e]
 ·rw [List.set_eq_of_length_le (by rw [ag];right)]
theorem IceAt.leap {p:Addr}{g:IceG}{n:Nat}{a:Addr}{kvs:List (Key×V)}(I:IceAt C H p g) (j:g.lds[n]? = some (a,kvs)) (U:∀x∈g.lds,x.1≠g.ye) (G:(g.lds.map (·.1)).Nodup) (e:Ext a H H') (h:H' a=some (.dK kvs')):IceAt C H' p { g with lds:=yX g.lds n kvs' }:=by
 have l:=aC j
 have s:=I.lds _ l
 have f:∀{c:Addr} {o:HO},H c=some o->(∀z,o≠.dK z)->H' c=some o:=λh n=>e _ _ h (jm h s (n _))
 have A:n<g.lds.length:=(List.getElem?_eq_some_iff.mp j).1
 refine ⟨f I.ob ↥4,f I.va ↥4,I.rs.keep λ_ _ q=>f q ↥4,f I.cy ↥4,I.rows.imp λ_ _ q=>f q ↥4,f I.sl ↥4,Paired.mapP I.slopes λv w ⟨a,t,q⟩=>⟨a,t,f q ↥4⟩,e _ _ I.ye (λz=>U _ l z.symm),(by show H' g.le=_;rw [Yv];exact f I.le ↥4),λx r=>?_⟩
 have k:x∈yX g.lds n kvs':=r
 obtain ⟨i,hi,ex⟩:=List.mem_iff_getElem.mp k
 have u:i<g.lds.length:=by unfold yX at hi;rw [lq] at hi;exact hi
 have b:(yX g.lds n kvs')[i]? = some x:=by rw [ae hi,ex]
 unfold yX at b
 rw [iL] at b
 by_cases d:n=i
 ·rw [if_pos d,if_pos ()] at b
  rw [<- bB b,ao,j]
  exact h
 ·rw [if_neg d] at b
  refine e _ _ (I.lds x (aC b)) λz=>d ?_
  have h1:(g.lds.map (·.1))[n]? = some a:=by rw [aH,j];rfl
  have h2:(g.lds.map (·.1))[i]? = some a:=by rw [aH,b,<- z];rfl
  have m:=(List.getElem?_eq_some_iff.mp h1).1
  have y:=(List.getElem?_eq_some_iff.mp h2).1
  exact (List.getElem?_inj m G).mp (h1.trans h2.symm)
inductive spSurge (C CN CY CS:Addr) (vs:List V) (H:Hp) (Q:VK) (E:XK):Prop
 | mk (p:Addr) (g:IceG) (l y m:Int) (_:vs=[.ref p,.int l,.int y,.int m]) (_:IceAt C H p g) (_:g.lds.length=g.slopes.length) (_:(∀x∈g.lds,x.1≠g.ye)) (_:(g.lds.map (·.1)).Nodup) (_:(∀x∈g.lds,x.2.length<=1000)) (_:(∀H' a kvs,0<=l->l< ↥16->0<=y->y<=99->1<=m->m<=9->g.lds[l.toNat]? = some (a,kvs)->Ext a H H'->IceAt C H' p { g with lds:=yX g.lds l.toNat (qK kvs (.inl y) (.int m)) }->Q .non H')) (_: ↥69) (_:(0<=l->l< ↥16->y<0\/99<y->E (.ref CY) none H)) (_:(0<=l->l< ↥16->0<=y->y<=99->m<1\/9<m->E (.ref CS) none H))
theorem J8:FnScope ["self","lane","year","many"] ["self","lane","year","many"] (ja yA):=by walk_at "s"
theorem Jc (nb:Nb2 mg) (T:IceC K C) (ac:Cls K C) (G:mg "GREATEST_SURGE" = some (.int 9 u0)) (ab:mg "BadSurge" = some (.ref CS)) (Y:eO K CS [.type "ValueError",.type "Exception",.type "BaseException",.type "object"] "ValueError.__new__" = true) (j:CalMX P w K mg base 1 C "check_lane" ["self","lane"] (spCheckLane C CN)) (U:CalX P w K mg base 1 "check_told" ["year"] (spCheckTold CY)) (F:Fun K "surge" "Ice.surge" yA f fd):FnOk P w K mg base (CX1 P w) 2 f fd ["self","lane","year","many"] (spSurge C CN CY CS):=by
 refine Fun.okX F J8 (λq H Q E h=>?_) (λJ A outer s H q Q E c h=>?_)
 ·obtain ⟨p,g,l,y,m,rfl,_⟩:=h
  rfl
 ·obtain ⟨p,g,l,y,m,rfl,I,D,z,t,B,k,x,u,ks⟩:=h
  refine ⟨_,(j6 (qa (yS (pv 0) ac j (c.mono ⋯) xQ ↥47))
   (j6 (qa (uW U (c.mono ⋯) xQ rfl ↥65))
   (j6 (jN (xM (zf qC qC j7 (pv 3) (xL (v:=V.int 9) rfl G ⟨_,rfl⟩))) (jb (zd bT Y ab rfl zU rfl (j0 jC j5))) jv)
   (jb (yt (qk c) ↥67 (pv 2) (pv 3) rfl))))),?_⟩
  walk_at "r"
  refine ⟨p,g.dx,_,rfl,I.ob,qY ∅,?_⟩
  walk_at "r"
  refine ⟨p,g,l,rfl,I,λa b=>?_,λd=>x d⟩
  walk_at "r"
  refine ⟨λe h1=>?_,λd=>u a b d⟩
  have hi:l.toNat<g.lds.length:=()
  walk_at "r"
  refine qp (λn=>?_) (λn=>?_)
  ·walk_at "r"
   refine yV (λi=>?_) (λi=>?_)
   ·walk_at "r"
    exact ⟨by show 1<=sizeLine;decide,ks a b e h1 (.inr ())⟩
   ·walk_at "r"
    refine ⟨p,C,g.dx,_,_,rfl,I.ob,T.cl,T.nL,ue _ _ _ _ _,?_⟩
    walk_at "r"
    refine ⟨_,_,_,_,rfl,rfl,SqL.of I.le,xg a (v:=V.ref (g.lds[l.toNat]'hi).1) (by rw [aH,ae hi];rfl),?_⟩
    walk_at "r"
    have o:=I.lds _ (cJ hi)
    refine ⟨_,_,rfl,wt.k (k:=.inl y) o (jj (B _ (cJ hi))),?_⟩
    exact k _ _ _ a b e h1 n i (ae hi) Ext.put (I.leap (ae hi) z t Ext.put j9)
  ·walk_at "r"
   refine vW ?_
   walk_at "r"
   exact ⟨by show 1<=sizeLine;decide,ks a b e h1 (.inl ())⟩
noncomputable def kvI (q:Int×Int):Key×V:=(.inl q.1,.int q.2)
noncomputable def qU:List (Int×Int)->Int->Int
 | [],_=>0
 | q::r,y=>if q.1=y then q.2 else qU r y
theorem vA:∀(ns:List (Int×Int)) (y:Int),y∈ns.map (·.1)->qE (ns.map kvI) (.inl y)=some (.int (qU ns y))
 | [],y,h=>by cases h
 | q::r,y,h=>by
  rw [aQ]
  unfold qE qU
  by_cases e:q.1=y
  ·subst e
   simp [kvI,List.find?]
  ·have h':y∈r.map (·.1):=by
    rcases List.mem_cons.mp h with z | z
    ·exact absurd z.symm e
    ·exact z
   have a:=vA r y h'
   unfold qE at a
   simp [kvI,List.find?,e] at a ⊢
   exact a
theorem Xd:∀(ns:List (Int×Int)),(↥85).Nodup->(↥85).map (λy=>(y,qU ns y))=ns
 | [],_=>rfl
 | q::r,a=>by
  rw [aQ] at a ⊢
  obtain ⟨h1,h2⟩:=List.nodup_cons.mp a
  rw [aQ]
  have e:qU (q::r) q.1=q.2:=by unfold qU;rw [if_pos rfl]
  rw [e]
  refine congrArg (q :: ·) ?_
  conv=>rhs;rw [<- Xd r h2]
  refine eP λy c=>?_
  have b:¬q.1=y:=λz=>h1 (z ▸ c)
  show (y,qU (q::r) y)=_
  conv=>lhs;unfold qU
  rw [if_neg b]
inductive spSurgesI (C CN:Addr) (vs:List V) (H:Hp) (Q:VK) (E:XK):Prop
 | mk (p:Addr) (g:IceG) (l:Int) (_:vs=[.ref p,.int l]) (_:IceAt C H p g) (_:g.lds.length=g.slopes.length) (_: ↥69) (_:(0<=l->l< ↥16->∃(a:Addr) (ns:List (Int×Int)),g.lds[l.toNat]? = some (a,ns.map kvI)/\ (↥85).Nodup/\ns.length<64 /\
  ∀o H' out (ms:List (Int×Int)),H o=none->H' o=some (.lst out)->cW (λv (m:Int×Int)=>∃b,v=V.ref b/\H' b=some (.tup [.int m.1,.int m.2])) out ms->jo H H'->ms.Perm ns->(↥66).Pairwise (· <= ·)->Q (.ref o) H'))
theorem kt:FnScope ["self","lane"] ["self","lane"] (ja xY):=by walk_at "s"
theorem gU (nb:Nb2 mg) (T:IceC K C) (G:Cls K C) (j:CalMX P w K mg base 1 C "check_lane" ["self","lane"] (spCheckLane C CN)) (F:Fun K "surges" "Ice.surges" xY f fd):FnOk P w K mg base (CX1 P w) 2 f fd ["self","lane"] (spSurgesI C CN):=by
 refine Fun.okX F kt ↥33 (λap A outer s H vs Q E hr h=>?_)
 ·obtain ⟨p,g,l,rfl,_⟩:=h
  rfl
 ·obtain ⟨p,g,l,rfl,I,al,kx,k⟩:=h
  refine ⟨_,(j6 (qa (yS (pv 0) G j (hr.mono ⋯) xQ ↥47))
   (jb (jk (qc (osc:=(ja xY)) (ON:=["self","lane"]) (N:=["year","lane","self"]) (own:=1) (caps:=[1,0]) ⟨rfl,∅,∅,∅,rfl,∅⟩ rfl rfl rfl (jX K (jf (Q8 K rfl) rfl nb.b_sorted mn (j0 ↥67 j5))) (λ_ _ _ _ _=>(jd (i:=0) (show bp (["year","lane","self"]:List Str) by decide +kernel) rfl (aR rfl))) ↥38 (λ_ _ _ _ _=>(qx (j0 (pv 0) (j0 (jW (qk hr) (jp (jg K) (xo K (pv 2)) (pv 1) (λ_ _=>rfl)) (pv 0) (λ_ _=>rfl)) j5)))))))),?_⟩
  walk_at "r"
  refine ⟨p,g.dx,_,rfl,I.ob,qY ∅,?_⟩
  walk_at "r"
  refine ⟨p,g,l,rfl,I,λl0 l1=>?_,λX=>kx X⟩
  obtain ⟨a,ns,Y,nd,O,k⟩:=k l0 l1
  have hi:=(List.getElem?_eq_some_iff.mp Y).1
  have hm:=I.lds _ (aC Y)
  have M:atI (g.lds.map λx=>V.ref x.1) l=some (.ref a):=xg l0 (by rw [aH,Y];rfl)
  walk_at "r"
  refine ⟨p,C,g.dx,_,_,rfl,I.ob,T.cl,T.nL,ue _ _ _ _ _,?_⟩
  walk_at "r"
  refine ⟨_,_,_,_,rfl,rfl,SqL.of I.le,M,?_⟩
  refine ⟨a,ns.map kvI,ns.map (·.1),rfl,hm,by rw [cz,cz];rfl,by rw [ag];exact O,λo H1 ks ho D s1 U hs=>?_⟩
  have am:ks.length<64:=by rw [U.length_eq,ag];exact O
  refine ⟨o,rfl,⟨_,SqL.of D⟩,λacc d=>?_⟩
  refine qv (K:=K) (a:=o) (xs:=ks.map V.int) (acc:=acc) (λi σ H2=>∃(x:Option V) (out:List V),σ=[x,some (.int l),some (.ref p)]/\H2 acc=some (.lst out)/\out.length=i/\cW (λv (m:Int×Int)=>∃b,v=V.ref b/\H2 b=some (.tup [.int m.1,.int m.2])) out ((ks.take i).map λy=>(y,qU ns y))/\Ext acc H1 H2) ?_ ?_ ?_ ?_
  ·exact ⟨none,[],rfl,j9,rfl,.nil,Ext.put⟩
  ·rintro i σ H2 hi ⟨x,out,rfl,h2,R,B,u⟩
   exact SqL.of (u _ _ D (j4 D d))
  ·rintro i v σ H2 hv ⟨x,out,rfl,h2,R,B,u⟩
   obtain ⟨y,rfl,S⟩:=hE hv
   have an:=(List.getElem?_eq_some_iff.mp S).1
   have ab:y∈ns.map (·.1):=U.mem_iff.mp (aC S)
   have J:jo H H2:=λc o t=>u _ _ (s1 _ _ t) (j4 (s1 _ _ t) d)
   have I2:=I.same J
   walk_at "r"
   refine ⟨p,C,g.dx,_,_,rfl,I2.ob,T.cl,T.nL,ue _ _ _ _ _,?_⟩
   walk_at "r"
   refine ⟨_,_,_,_,rfl,rfl,SqL.of I2.le,M,?_⟩
   walk_at "r"
   refine ⟨a,.int (qU ns y),rfl,by rw [<- vA ns y ab];exact qQ.k (k:=.inl y) (J _ _ hm),?_⟩
   walk_at "r"
   refine ⟨by show 2<=sizeLine;decide,λb H3 X ac L=>?_⟩
   have h3:=L _ _ h2
   have Z:b≠acc:=(j4 h2 X).symm
   refine ⟨out,h3,jj (),some (.int y),out++[.ref b],rfl,j9,by rw [ar,R];rfl,?_,λc o t n=>by rw [j8 n];exact L _ _ (u c o t n)⟩
   rw [qG (λy=>(y,qU ns y)) ks i y S]
   exact cE (Paired.mapP B λv m ⟨c,e,q⟩=>⟨c,e,by rw [j8 (jm (L _ _ q) h3 ↥3)];exact L _ _ q⟩) ⟨b,rfl,by rw [j8 Z];exact ac⟩
  ·rintro σ H2 ⟨x,out,rfl,h2,R,B,u⟩
   rw [ag,bg] at B
   have J:jo H H2:=λc o t=>u _ _ (s1 _ _ t) (j4 (s1 _ _ t) d)
   refine k acc H2 out _ (s1.free d) h2 B J ?_ ?_
   ·have:=U.map λy=>(y,qU ns y)
    rw [Xd ns nd] at this
    exact this
   ·rw [cz]
    have:((λx:Int×Int=>x.1) ∘ λy=>(y,qU ns y))=id:=rfl
    rw [this,oR]
    exact hs
noncomputable def jz (st ad:Int):List (Int×Int)->Int->Int
 | [],a=>if a-ad > st then a-ad else st
 | q::r,a=>if a-ad<q.1 then (if a-ad > st then a-ad else st) else jz q.1 (ad+q.2) r a
noncomputable def wN (H:Hp) (out:List V) (ms:List (Int×Int)):Prop:=cW (λv (m:Int×Int)=>∃b,v=V.ref b/\H b=some (.tup [.int m.1,.int m.2])) out ms
theorem wN.same (h:wN H out ms) (s:jo H H'):wN H' out ms:=Paired.mapP h λ_ _ ⟨b,e,q⟩=>⟨b,e,s _ _ q⟩
inductive spEarliest  (vs:List V) (H:Hp) (Q:VK) (z_3:XK):Prop
 | mk (p:Addr) (out:List V) (ms:List (Int×Int)) (goal:Int) (_:vs=[.ref p,.int goal]) (_:H p=some (.lst out)) (_:wN H out ms) (_:∀H',jo H H'->Q (.int (jz 0 0 ms goal)) H')
theorem qS:FnScope ["surges","goal","start","added","year","many"] ["surges","goal"] (ja uf):=by walk_at "s"
theorem Xy (nb:Nb2 mg) (F:Fun K "earliest" "earliest" uf f fd):FnOk P w K mg base CX0 1 f fd ["surges","goal"] spEarliest:=by
 refine F.ok qS (λx H Q E h=>?_) (λC A outer s H x Q E D h=>?_)
 ·obtain ⟨p,out,ms,j,rfl,_⟩:=h
  rfl
 ·obtain ⟨p,out,ms,j,rfl,t,o,k⟩:=h
  have q:out.length=ms.length:=aP o
  refine ⟨_,(j6 (js 2 qS.nd j7)
   (j6 (js 3 qS.nd j7)
   (j6 (qA bh rfl (jX K (pv 0)) (qj (n:=2) K rfl (jh (jd (i:=4) qS.nd rfl (aR rfl)) (jh (jd (i:=5) qS.nd rfl (aR rfl)) qi))) (j6 (jN (jq vK (jr qO (pv 1) (pv 3)) (pv 4) (jw _)) (jb Vo) jv)
   (j6 (js 2 qS.nd (pv 4))
   (jb (JZ (i:=3) qS.nd rfl (aR rfl) (pv 5) Zn)))))
   (jb (jk (jf (zA rfl) rfl nb.b_max oX (j0 (pv 2) (j0 (jr qO (pv 1) (pv 3)) j5)))))))),?_⟩
  walk_at "r"
  refine ⟨⟨_,SqL.of t⟩,?_⟩
  refine yf (K:=K) (a:=p) (xs:=out) (λi σ H2=>∃(st ad:Int) (l g:Option V),σ=[some (.ref p),some (.int j),some (.int st),some (.int ad),l,g]/\jo H H2/\jz st ad (ms.drop i) j=jz 0 0 ms j) ?_ ?_ ?_ ?_
  ·exact ⟨0,0,_,_,rfl,jo.refl _,by rw [tO]⟩
  ·rintro i σ H2 hi ⟨st,ad,l,g,rfl,d,c⟩
   exact SqL.of (d _ _ t)
  ·rintro i v σ H2 y ⟨st,ad,l,g,rfl,d,c⟩
   obtain ⟨m,u,b,rfl,z⟩:=Paired.get o y
   have hi:=(List.getElem?_eq_some_iff.mp u).1
   have B:ms.drop i=m::ms.drop (i+1):=by
    rw [cj hi]
    have:=(List.getElem?_eq_some_iff.mp u).2
    rw [this]
   rw [B] at c
   walk_at "r"
   refine ⟨b,_,rfl,SqT.of (d _ _ z),rfl,?_⟩
   refine ⟨_,_,rfl,_,_,rfl,rfl,?_⟩
   walk_at "r"
   refine qp (λh1=>?_) (λh1=>?_)
   ·walk_at "r"
    refine ⟨_,_,rfl,?_⟩
    rw [show jz st ad (m::ms.drop (i+1)) j=if j-ad > st then j-ad else st from by conv=>lhs;unfold jz;rw [if_pos h1]] at c
    have e:=k H2 d
    rw [<- c] at e
    exact e
   ·walk_at "r"
    refine ⟨_,_,_,_,rfl,d,?_⟩
    rw [<- c]
    conv=>rhs;unfold jz;rw [if_neg h1]
  ·rintro σ H2 ⟨st,ad,l,g,rfl,d,c⟩
   rw [q,List.drop_length] at c
   walk_at "r"
   refine ⟨_,_,rfl,?_⟩
   have e:=k H2 d
   rw [<- c] at e
   exact e
inductive spSpan (C CN:Addr) (vs:List V) (H:Hp) (Q:VK) (E:XK):Prop
 | mk (p:Addr) (g:IceG) (l mark:Int) (_:vs=[.ref p,.int l,.int mark]) (_:IceAt C H p g) (_:g.lds.length=g.slopes.length) (_:(∀H',jo H H'->l<0\/ ↥16<=l->E (.ref CN) none H')) (_:(0<=l->l< ↥16->∃(a:Addr) (ns:List (Int×Int)),g.lds[l.toNat]? = some (a,ns.map kvI)/\ (↥85).Nodup/\ns.length<64 /\
  ∀ms:List (Int×Int),ms.Perm ns->(↥66).Pairwise (· <= ·)->∀fst gon:Int,fst=jz 0 0 ms mark->gon=jz 0 0 ms (mark+((↥21).length:Int)) ->
   (fst<gon->∀t H',jo H H'->H' t=some (.tup [.int fst,.int (gon-1)])->Q (.ref t) H')/\(¬fst<gon->∀H',jo H H'->Q .non H')))
theorem kl:FnScope ["ice","lane","mark","surges","first","gone"] ["ice","lane","mark"] (ja Z0):=by walk_at "s"
theorem UK (Y:Cls K C) (G:CalMX P w K mg base 2 C "surges" ["self","lane"] (spSurgesI C CN)) (U:CalMX P w K mg base 2 C "length" ["self","lane"] (spLengthI C CN)) (j:Cal P w K mg base 1 "earliest" ["surges","goal"] spEarliest) (F:Fun K "span" "span" Z0 f fd):FnOk P w K mg base (CX1 P w) 3 f fd ["ice","lane","mark"] (spSpan C CN):=by
 refine Fun.okX F kl (λx H Q E h=>?_) (λT A outer s H x Q E b h=>?_)
 ·obtain ⟨p,g,l,ab,rfl,_⟩:=h
  rfl
 ·obtain ⟨p,g,l,ab,rfl,I,u,L,k⟩:=h
  refine ⟨_,(j6 (js 3 kl.nd (yS (pv 0) Y G (b.mono ⋯) xQ ↥47))
   (j6 (js 4 kl.nd (je j (b.mono ⋯) rfl (j0 (pv 3) ↥65)))
   (j6 (js 5 kl.nd (je j (b.mono ⋯) rfl (j0 (pv 3) (j0 (jr jL (pv 2) (yS (pv 0) Y U (b.mono ⋯) xQ ↥47)) j5))))
   (jb (jk (Xr (jq vK (pv 4) (pv 5) (jw _)) (qx (j0 (pv 4) (j0 (jr qO (pv 5) j7) j5))) wb)))))),?_⟩
  walk_at "r"
  refine ⟨p,g.dx,_,rfl,I.ob,qY ∅,?_⟩
  walk_at "r"
  refine ⟨p,g,l,rfl,I,u,λi=>L H (jo.refl H) i,λJ D=>?_⟩
  obtain ⟨a,ns,O,B,v,k⟩:=k J D
  refine ⟨a,ns,O,B,v,λo H1 out ms X c q s1 N M=>?_⟩
  have k:=k ms N M _ _ rfl rfl
  walk_at "r"
  refine ⟨o,out,ms,ab,rfl,c,q,λH2 e=>?_⟩
  walk_at "r"
  have d:=s1.trans e
  refine ⟨p,g.dx,_,rfl,d _ _ I.ob,qY ∅,?_⟩
  walk_at "r"
  refine ⟨p,g,l,rfl,I.same d,λ_ _=>?_,λi=>absurd i ()⟩
  walk_at "r"
  refine ⟨o,out,ms,_,rfl,e _ _ c,wN.same q e,λS z=>?_⟩
  have m:=d.trans z
  walk_at "r"
  refine qp (λh1=>?_) (λh1=>?_)
  ·walk_at "r"
   refine ⟨by show 2<=sizeLine;decide,λt R V n y=>?_⟩
   exact k.1 h1 t R (m.trans y) n
  ·walk_at "r"
   exact k.2 h1 S m
inductive spYear  (vs:List V) (H:Hp) (Q:VK) (z_3:XK):Prop
 | mk (L b:Addr) (_:vs=[.ref b]) (_:jK L H b) (_:∀(y:Int) (H':Hp),0<=y->y<=99->jK L H' b->Ext b H H'->Q (.int y) H')
theorem Xo:FnScope ["_law_box_here"] ["_law_box_here"] (ja ug):=by walk_at "s"
theorem Uw {v a b c:Int}(U:0<=v) (h1:v<5) (I:0<=a/\a<=99) (G:0<=b/\b<=99) (j:0<=c/\c<=99):∃n,atI [V.int a,V.int b,V.int c,V.int 99,V.int 0] v=some (V.int n)/\0<=n/\n<=99:=by
 have h:v=0\/v=1\/v=2\/v=3\/v=4:=()
 rcases h with rfl | rfl | rfl | rfl | rfl
 ·exact ⟨a,rfl,I.1,I.2⟩
 ·exact ⟨b,rfl,G.1,G.2⟩
 ·exact ⟨c,rfl,j.1,j.2⟩
 ·exact ⟨99,rfl,⋯,⋯⟩
 ·exact ⟨0,rfl,⋯,⋯⟩
theorem Uj (j:Cal P w K mg base 2 "_law_take" ["_law_box_here","_law_size"] spTakeL) (F:Fun K "_law_year" "_law_year" ug f fd):FnOk P w K mg base CX0 3 f fd ["_law_box_here"] spYear:=by
 refine F.ok Xo (λo H Q E h=>?_) (λR A outer s H o Q E d h=>?_)
 ·obtain ⟨L,b,rfl,_⟩:=h
  rfl
 ·obtain ⟨L,b,rfl,B,k⟩:=h
  refine ⟨_,(jb (jk (jp (jg K) (jB (j0 ↥51 (j0 ↥51 (j0 ↥51 ↥143)))) ↥51 (λ_ _=>rfl)))),?_⟩
  walk_at "r"
  refine ⟨L,b,_,rfl,B,⟨⋯,⋯⟩,λt H1 x V O J=>?_⟩
  walk_at "r"
  refine ⟨L,b,_,rfl,O,⟨⋯,⋯⟩,λq H2 p2 U N I=>?_⟩
  walk_at "r"
  refine ⟨L,b,_,rfl,N,⟨⋯,⋯⟩,λp Y p3 T m G=>?_⟩
  walk_at "r"
  refine ⟨by show 5<=sizeLine;decide,λl X C g e=>?_⟩
  walk_at "r"
  refine ⟨L,b,_,rfl,m.same e,⟨⋯,⋯⟩,λS H5 v u M i=>?_⟩
  obtain ⟨n,D,z,y⟩:=Uw v u (a:=t) (b:=q) (c:=p) ⟨x,()⟩ ⟨p2,()⟩ ⟨p3,()⟩
  refine ⟨_,_,_,_,rfl,rfl,SqL.of (i _ _ g (m.ne C)),D,?_⟩
  exact k n H5 z y M ((((J.trans I).trans G).trans (Ext.of_same e)).trans i)
noncomputable def scK (p q j I G:Addr):List (Key×V):=[↥27,↥49,↥79,(.inr "grounds",.ref I),(.inr "leaps",.ref G)]
theorem xF {k:Key}{v:V}{r:List (Key×V)}:qE ((k,v)::r) k=some v:=by
 unfold qE
 rw [nU (p:=λb:Key×V=>decide (b.1=k)) (a:=(k,v)) (decide_eq_true rfl)]
 rfl
theorem jx {k j:Key}{v:V}{r:List (Key×V)}(h:j≠k):qE ((j,v)::r) k=qE r k:=by
 unfold qE
 rw [nW (p:=λb:Key×V=>decide (b.1=k)) (a:=(j,v)) (λz=>h (of_decide_eq_true z))]
theorem Zh (p q j I G:Addr):qE (scK p q j I G) (.inr "reaches")=some (.ref p):=xF
theorem Qn (p q j I G:Addr):qE (scK p q j I G) (.inr "rows")=some (.ref q):=(jx (show ↥78≠bw (aj "rows") by decide +kernel)).trans (xF)
theorem yg (p q j I G:Addr):qE (scK p q j I G) (.inr "single")=some (.ref j):=(jx (show ↥78≠bw (aj "single") by decide +kernel)).trans ((jx (show (bw (aj "rows"):Key)≠bw (aj "single") by decide +kernel)).trans (xF))
theorem zG (p q G j I:Addr):qE (scK p q G j I) (.inr "grounds")=some (.ref j):=(↥115).trans ((↥86).trans ((↥81).trans (xF)))
theorem gP (p q G I j:Addr):qE (scK p q G I j) (.inr "leaps")=some (.ref j):=(jx (show ↥78≠bw (aj "leaps") by decide +kernel)).trans ((jx (show (bw (aj "rows"):Key)≠bw (aj "leaps") by decide +kernel)).trans ((jx (show (bw (aj "single"):Key)≠bw (aj "leaps") by decide +kernel)).trans ((jx (show (bw (aj "grounds"):Key)≠bw (aj "leaps") by decide +kernel)).trans (xF))))
noncomputable def FrM (M:Addr->Prop) (H H':Hp):Prop:=∀c o,H c=some o->H' c=some o\/(M c/\∃a kvs,o = .dK kvs/\H' c=some (.frz a (.dK kvs)))
theorem FrM.of_same (s:jo H H'):FrM M H H':=λc o h=>.inl (s c o h)
theorem FrM.trans (a:FrM M H H1) (b:FrM M H1 H2):FrM M H H2:=λc o h=>by
 rcases a c o h with h1 | ⟨m,d,kvs,e,h1⟩
 ·exact b c o h1
 ·rcases b c _ h1 with h2 | ⟨_,_,_,f,_⟩
  ·exact .inr ⟨m,d,kvs,e,h2⟩
  ·cases f
theorem FrM.at (f:FrM M H H') (h:H c=some o) (n:∀kvs,o≠.dK kvs):H' c=some o:=by
 rcases f c o h with h1 | ⟨_,a,kvs,e,_⟩
 ·exact h1
 ·exact absurd e (n kvs)
noncomputable def jA (ns:List (Int×Int)) (y:Int):Int:=((ns.filter λq=>decide (q.1<=y)).map (·.2)).sum
theorem wF:∀{ns:List (Int×Int)},(↥85).Nodup->∀{z:Int×Int},z∈ns->qU ns z.1=z.2
 | [],_,z,h=>by cases h
 | q::r,a,z,h=>by
  rw [aQ] at a
  obtain ⟨h1,h2⟩:=List.nodup_cons.mp a
  unfold qU
  rcases List.mem_cons.mp h with e | e
  ·rw [e,if_pos rfl]
  ·have ne:¬q.1=z.1:=λw=>h1 (by rw [w];exact bV e)
   rw [if_neg ne]
   exact wF h2 e
theorem VN {ns:List (Int×Int)}{i:Nat}(h:(ns.map kvI)[i]? = some q):∃z,ns[i]? = some z/\q=kvI z:=by
 rw [aH] at h
 cases e:ns[i]? with
 | none=>rw [e] at h;cases h
 | some z=>rw [e] at h;cases h;exact ⟨z,rfl,rfl⟩
theorem JE {ns:List (Int×Int)}{y:Int}{H:Hp}{R:Hp->Prop}(h:H a=some (.frz o (.dK (ns.map kvI)))) (nd: (↥85).Nodup) (hl:ns.length<=100) (G:H acc=none)
  (fin:∀H',H' acc=some (.lst (((ns.filter λq=>decide (q.1<=y)).map (·.2)).map V.int))->jo H H'->R H') :
  ∃W:Nat->Nat->L2.St->Hp->Prop,(∃m,W 0 m [none,some (.ref a),some (.int y)] (upd H acc (.lst [])))/\∀i m σ' H',W i m σ' H' ->
   ((Itd a o (ns.map kvI)).stop i H'/\R H')\/((Itd a o (ns.map kvI)).go i H'/\∃U:L2.St->Hp->Prop,(∀Y H2,U Y H2->∃m',m'<m/\W (i+1) m' Y H2) /\
    ∀x H2,(Itd a o (ns.map kvI)).yld i H' x H2->wP 0 x σ' H2 λI H3=>Xv (tOp (rI0 λi j=>V.bl (decide (i<=j))) (tVar 0) (tVar 2)) I H3 λok H4=>if ok=true then Wu (tVar 1) (tVar 0) I H4 λv H5=>∃ys,H5 acc=some (.lst ys)/\ys.length<sizeLine/\U I ↥19 else U I H4):=by
 refine YC (a:=a) (acc:=acc) (o:=o) (kvs:=ns.map kvI) (λi σ H'=>∃x:Option V,σ=[x,some (.ref a),some (.int y)]/\H' acc=some (.lst ((((ns.take i).filter λq=>decide (q.1<=y)).map (·.2)).map V.int))/\Ext acc H H') ⟨none,rfl,j9,Ext.put⟩ ?_ ?_ ?_
 ·rintro i σ H' hi ⟨x,rfl,d,b⟩
  exact b _ _ h (j4 h G)
 ·rintro i q σ H' n ⟨x,rfl,d,b⟩
  obtain ⟨z,e,rfl⟩:=VN n
  have g:=aC e
  have hi:i<ns.length:=(List.getElem?_eq_some_iff.mp e).1
  have k:((((ns.take i).filter λq=>decide (q.1<=y)).map (·.2)).map V.int).length<=100:=by
   rw [ag,ag]
   exact aN (bU _ _) (by rw [aY];right)
  have p:=b _ _ h (j4 h G)
  show wP 0 (V.int z.1) _ _ _
  walk_at "r"
  refine qp (λf=>?_) (λf=>?_)
  ·refine ⟨_,rfl,_,rfl,a,V.int z.2,rfl,?_,_,d,c5 k ⋯,_,rfl,?_,b.trans Ext.put⟩
   ·have:=vA ns z.1 (bV g)
    rw [wF nd g] at this
    rw [<- this]
    exact .inl ⟨_,.inl z.1,.inr ⟨o,p⟩,rfl,rfl⟩
   ·rw [j9,bJ,e,cn,bK,cC (by rw [decide_eq_true f]),aD,aD]
    rfl
  ·refine ⟨_,rfl,?_,b⟩
   rw [bJ,e,cn,bK,cB (by rw [decide_eq_false f];exact aq),fD,bj]
   exact d
 ·rintro σ H' ⟨x,rfl,d,b⟩
  rw [ag,bg] at d
  exact fin H' d λc u l=>b c u l (j4 l G)
inductive spRide  (vs:List V) (H:Hp) (Q:VK) (z_3:XK):Prop
 | mk (M:Addr->Prop) (sd p q sg gl ll a:Addr) (lds:List Addr) (l y:Int) (ns:List (Int×Int)) (_:vs=[.ref sd,.int l,.int y]) (_:H sd=some (.dK (scK p q sg gl ll))) (_:H ll=some (.lst (lds.map V.ref))) (_:0<=l) (_:lds[l.toNat]? = some a) (_:Rd H a (.dK (ns.map kvI))) (_:M a) (_:¬M sd) (_:ns.length<=100) (_: (↥85).Nodup) (_:(∀q∈ns,0<=q.2/\q.2<=9)) (_:∀H',FrM M H H'->Q (.int (y+jA ns y)) H')
theorem wM:FnScope ["_law_scene_here","_law_lane","_law_year_here","_law_leaps"] ["_law_scene_here","_law_lane","_law_year_here"] (ja yK):=by walk_at "s"
theorem UQ (nb:Nb2 mg) (F:Fun K "_law_ride" "_law_ride" yK f fd):FnOk P w K mg base CX0 1 f fd ["_law_scene_here","_law_lane","_law_year_here"] spRide:=by
 refine F.ok wM (λS H Q E h=>?_) (λac A outer s H S Q E L h=>?_)
 ·obtain ⟨M,m,p,q,C,R,t,a,G,l,y,ns,rfl,_⟩:=h
  rfl
 ·obtain ⟨M,m,p,q,C,R,t,a,G,l,y,ns,rfl,I,O,T,Y,J,Z,ab,g,D,h9,k⟩:=h
  refine ⟨_,(j6 (uc (i:=3) wM.nd rfl (lr rfl) (jp (jg K) (jW (qk L) (pv 0) jC (λ_ _=>rfl)) (pv 1) (λ_ _=>rfl)))
   (jb (jk (jr jL (pv 2) (jf (gq K rfl) rfl nb.b_sum Aj (j0 (qc (osc:=(ja yK)) (ON:=["_law_scene_here","_law_lane","_law_year_here","_law_leaps"]) (N:=["_law_when","_law_leaps","_law_year_here"]) (own:=1) (caps:=[3,2]) ⟨rfl,∅,∅,∅,rfl,∅⟩ rfl rfl rfl (Q9 (pv 3)) (λ_ _ _ _ _=>(jd (i:=0) (show bp (["_law_when","_law_leaps","_law_year_here"]:List Str) by decide +kernel) rfl (aR rfl))) (λ_ _ _ _ _=>(yk (jq qC (pv 0) (pv 2) (jw _)))) (λ_ _ _ _ _=>(jW (qk L) (pv 1) (pv 0) (λ_ _=>rfl)))) j5)))))),?_⟩
  walk_at "r"
  refine ⟨m,.ref t,rfl,by rw [<- gP p q C R t];exact qQ.k (k:=.inr "leaps") I,?_⟩
  walk_at "r"
  refine ⟨_,_,_,_,rfl,rfl,SqL.of O,xg T (v:=V.ref a) (by rw [aH,Y];rfl),?_⟩
  walk_at "r"
  have fin:∀(H1:Hp),FrM M H H1->∀acc H2,H2 acc=some (.lst (((ns.filter λq=>decide (q.1<=y)).map (·.2)).map V.int))->jo H1 H2->GQ [some (.ref m),some (.int l),some (.int y),some (.ref a)] H2 λxs H3=>cI_call_sum K (V.ref acc::xs) H3 λz H4=>rI0 (λi j=>V.int (i+j)) (V.int y) z H4 Q:=λH1 B acc H2 h2 d=>by
   refine ⟨acc,_,rfl,SqL.of h2,?_,λn X=>?_,?_⟩
   ·rw [ag]
    exact aN (bU _ _) ()
   ·obtain ⟨z,U,rfl⟩:=List.mem_map.mp X
    have:=h9 z (List.mem_filter.mp U).1
    exact ⟨this.1,Int.le_trans this.2 ⋯⟩
   ·exact ⟨_,_,rfl,rfl,k H2 (B.trans (FrM.of_same d))⟩
  rcases J with h | ⟨o,h⟩
  ·refine ⟨a,_,rfl,.inl ⟨h,λo acc b=>?_⟩⟩
   have B:FrM M H (upd H a (.frz o (.dK (ns.map kvI)))):=λc u x=>by
    by_cases e:c=a
    ·subst e
     rw [h] at x
     cases x
     exact .inr ⟨Z,o,_,rfl,j9⟩
    ·exact .inl (by rw [j8 e];exact x)
   exact JE (a:=a) (o:=o) j9 D g b λH2 h2 d=>fin _ B acc H2 h2 d
  ·refine ⟨a,_,rfl,.inr ⟨o,h,λacc b=>?_⟩⟩
   exact JE (a:=a) (o:=o) h D g b λH2 h2 d=>fin _ (FrM.of_same (jo.refl H)) acc H2 h2 d
theorem Yo (y:Int):jA [] y=0:=rfl
theorem qe (q:Int×Int) (r:List (Int×Int)) (y:Int):jA (q::r) y=(if q.1<=y then q.2 else 0)+jA r y:=by
 unfold jA
 rw [sD]
 by_cases h:q.1<=y
 ·rw [decide_eq_true h,if_pos rfl,if_pos h,aQ,pH]
 ·rw [decide_eq_false h,if_neg aq,if_neg h,nR]
theorem xv {ms:List (Int×Int)}(p:ms.Perm ns) (y:Int):jA ms y=jA ns y:=by
 induction p with
 | nil=>rfl
 | cons q _ c=>rw [qe,qe,c]
 | swap a b r=>rw [qe,qe,qe,qe];right
 | trans _ _ a b=>rw [a,b]
theorem Qb {ns:List (Int×Int)}(h:∀q∈ns,0<=q.2) (y:Int):0<=jA ns y:=by
 induction ns with
 | nil=>exact l9 _
 | cons q r a =>
  rw [qe]
  have:=h q (aM ..)
  have:=a λz b=>h z (aK _ b)
  by_cases e:q.1<=y
  ·rw [if_pos e];right
  ·rw [if_neg e];right
theorem Za {ns:List (Int×Int)}{y:Int}(h:∀q∈ns,y<q.1):jA ns y=0:=by
 induction ns with
 | nil=>rfl
 | cons q r b =>
  have a:=h q (aM ..)
  rw [qe,if_neg (),b λz c=>h z (aK _ c)]
  rfl
theorem gA:∀(ms:List (Int×Int)) (st ad j:Int),(∀q∈ms,st<=q.1)->(↥66).Pairwise (· <= ·)->st<=jz st ad ms j
 | [],st,ad,j,_,_=>by unfold jz;split <;> right
 | q::r,st,ad,j,h,p=>by
  unfold jz
  have a:=h q (aM ..)
  rw [aQ,ie] at p
  by_cases e:j-ad<q.1
  ·rw [if_pos e];split <;> right
  ·rw [if_neg e]
   have:=gA r q.1 (ad+q.2) j (λz b=>p.1 _ (bV b)) p.2
   right
theorem wA:∀(ms:List (Int×Int)) (st ad j y:Int),(∀q∈ms,st<=q.1/\0<=q.2)->(↥66).Pairwise (· < ·)->st<=y->(j<=y+ad+jA ms y↔jz st ad ms j<=y)
 | [],st,ad,j,y,_,_,k=>by rw [Yo];unfold jz;split <;> right
 | q::r,st,ad,j,y,h,p,k=>by
  have a:=h q (aM ..)
  have i:∀z∈r,0<=z.2:=λz b=>(h z (aK _ b)).2
  rw [aQ,ie] at p
  have d:∀z∈r,q.1<z.1:=λz b=>p.1 _ (bV b)
  have l:=Qb i y
  rw [qe]
  unfold jz
  by_cases c:q.1<=y
  ·rw [if_pos c]
   by_cases e:j-ad<q.1
   ·rw [if_pos e];split <;> right
   ·rw [if_neg e]
    have f:=wA r q.1 (ad+q.2) j y (λz b=>⟨rV (d z b),i z b⟩) p.2 c
    constructor
    ·intro z;exact f.mp ()
    ·intro z;have:=f.mpr z;right
  ·rw [if_neg c,Za λz b=>by have:=d z b;right]
   by_cases e:j-ad<q.1
   ·rw [if_pos e];split <;> right
   ·rw [if_neg e]
    have g:=gA r q.1 (ad+q.2) j (λz b=>rV (d z b)) (p.2.imp λh=>rV h)
    right
theorem qR:∀{l:List Int},l.Pairwise (· <= ·)->l.Nodup->l.Pairwise (· < ·)
 | [],_,_=>.nil
 | x::r,p,n=>by
  rw [ie] at p ⊢
  obtain ⟨c,b⟩:=List.nodup_cons.mp n
  refine ⟨λy a=>?_,qR p.2 b⟩
  have:=p.1 y a
  have:x≠y:=λe=>c (e ▸ a)
  right
inductive spRideBy  (vs:List V) (H:Hp) (Q:VK) (z_3:XK):Prop
 | mk (p:Addr) (out:List V) (ms:List (Int×Int)) (y:Int) (_:vs=[.ref p,.int y]) (_:H p=some (.lst out)) (_:wN H out ms) (_:ms.length<=100) (_:(∀q∈ms,0<=q.2/\q.2<=9)) (_:∀H',jo H H'->Q (.int (y+jA ms y)) H')
theorem ZA:FnScope ["surges","year"] ["surges","year"] (ja vy):=by walk_at "s"
theorem ZE (nb:Nb2 mg) (F:Fun K "ride_by" "ride_by" vy f fd):FnOk P w K mg base CX0 1 f fd ["surges","year"] spRideBy:=by
 refine F.ok ZA (λI H Q E h=>?_) (λS A outer s H I Q E T h=>?_)
 ·obtain ⟨p,out,ms,y,rfl,_⟩:=h
  rfl
 ·obtain ⟨p,out,ms,y,rfl,l,B,R,O,k⟩:=h
  have u:out.length=ms.length:=aP B
  refine ⟨_,(jb (jk (jr jL (pv 1) (jf (gq K rfl) rfl nb.b_sum Aj (j0 (qc (osc:=(ja vy)) (ON:=["surges","year"]) (N:=["when","many","year"]) (own:=2) (caps:=[1]) ⟨rfl,∅,∅,∅,rfl,∅⟩ rfl rfl rfl (jX K (pv 0)) (λ_ _ _ _ _=>(qj (n:=2) K rfl (jh (jd (i:=0) (show bp (["when","many","year"]:List Str) by decide +kernel) rfl (aR rfl)) (jh (jd (i:=1) (show bp (["when","many","year"]:List Str) by decide +kernel) rfl (aR rfl)) qi)))) (λ_ _ _ _ _=>(yk (jq qC (pv 0) (pv 2) (jw _)))) (λ_ _ _ _ _=>(pv 1))) j5))))),?_⟩
  walk_at "r"
  refine ⟨⟨_,SqL.of l⟩,λacc d=>?_⟩
  refine qv (K:=K) (a:=p) (xs:=out) (acc:=acc) (λi σ H2=>∃x g:Option V,σ=[x,g,some (.int y)]/\H2 acc=some (.lst ((((ms.take i).filter λq=>decide (q.1<=y)).map (·.2)).map V.int))/\Ext acc H H2) ?_ ?_ ?_ ?_
  ·exact ⟨none,none,rfl,j9,Ext.put⟩
  ·rintro i σ H2 hi ⟨x,g,rfl,h2,e⟩
   exact SqL.of (e _ _ l (j4 l d))
  ·rintro i v σ H2 L ⟨x,g,rfl,h2,e⟩
   obtain ⟨m,t,b,rfl,G⟩:=Paired.get B L
   have hi:=(List.getElem?_eq_some_iff.mp t).1
   have C:((((ms.take i).filter λq=>decide (q.1<=y)).map (·.2)).map V.int).length<=100:=by
    rw [ag,ag]
    exact aN (bU _ _) (by rw [aY];right)
   walk_at "r"
   refine ⟨b,_,rfl,SqT.of (e _ _ G (j4 G d)),rfl,?_⟩
   refine ⟨_,_,rfl,_,_,rfl,rfl,?_⟩
   walk_at "r"
   refine qp (λj=>?_) (λj=>?_)
   ·walk_at "r"
    refine ⟨_,h2,c5 C ⋯,_,_,rfl,?_,e.trans Ext.put⟩
    rw [j9,bJ,t,cn,bK,cC (by rw [decide_eq_true j]),aD,aD]
    rfl
   ·refine ⟨_,_,rfl,?_,e⟩
    rw [bJ,t,cn,bK,cB (by rw [decide_eq_false j];exact aq),fD,bj]
    exact h2
  ·rintro σ H2 ⟨x,g,rfl,h2,e⟩
   rw [u,bg] at h2
   walk_at "r"
   refine ⟨acc,_,rfl,SqL.of h2,?_,λn M=>?_,?_⟩
   ·rw [ag]
    exact aN (bU _ _) ()
   ·obtain ⟨z,J,rfl⟩:=List.mem_map.mp M
    have:=O z (List.mem_filter.mp J).1
    exact ⟨this.1,Int.le_trans this.2 ⋯⟩
   ·exact ⟨_,_,rfl,rfl,k H2 λc o D=>e c o D (j4 D d)⟩
noncomputable def Ui (g:IceG) (l:Int) (ns:List (Int×Int)):Prop:=0<=l/\l< ↥16/\(∃a,g.lds[l.toNat]? = some (a,ns.map kvI))/\ (↥85).Nodup/\ns.length<64/\∀q∈ns,0<=q.2/\q.2<=9
noncomputable def kvA (z:Int×Addr):Key×V:=(.inl z.1,.ref z.2)
noncomputable def xR {α:Type}(l:List (Int×α)) (y:Int) (a:α):List (Int×α):=if (l.any λz=>decide (z.1=y))=true then l.map (λz=>if z.1=y then (z.1,a) else z) else l++[(y,a)]
theorem gg {α:Type}(f:α->V) (l:List (Int×α)) (y:Int) (a:α):qK (l.map λz=>↥57) (.inl y) (f a)=(xR l y a).map λz=>↥57:=by
 have e:∀z:Int,decide ((fe z:Key)=fe y)=decide (z=y):=λz=>decide_eq_decide.mpr ⟨λh=>eX h,λh=>by rw [h]⟩
 have d:((l.map λz=>↥57).any λc=>decide (c.1=(fe y:Key)))=l.any λz=>decide (z.1=y):=by
  rw [List.any_map]
  congr 1
  funext z
  exact e z.1
 unfold qK xR
 rw [d]
 by_cases h:(l.any λz=>decide (z.1=y))=true
 ·rw [if_pos h,if_pos h,cz,cz]
  refine eP λz _=>?_
  show (if (fe z.1:Key)=fe y then _ else _)=_
  by_cases b:z.1=y
  ·rw [if_pos (by rw [b])]
   show _=(λz:Int×α=>↥57) (if z.1=y then (z.1,a) else z)
   rw [if_pos b]
  ·rw [if_neg (λw=>b (eX w))]
   show _=(λz:Int×α=>↥57) (if z.1=y then (z.1,a) else z)
   rw [if_neg b]
 ·rw [if_neg h,if_neg h,aD]
  rfl
theorem kT {α:Type}{l:List (Int×α)}{y:Int}{a:α}{z:Int×α}(h:z∈xR l y a):z∈l\/z=(y,a):=by
 unfold xR at h
 by_cases c:(l.any λz=>decide (z.1=y))=true
 ·rw [if_pos c] at h
  obtain ⟨u,b,e⟩:=List.mem_map.mp h
  by_cases q:u.1=y
  ·rw [if_pos q,q] at e
   exact .inr e.symm
  ·rw [if_neg q] at e
   exact .inl (e ▸ b)
 ·rw [if_neg c] at h
  rcases List.mem_append.mp h with q | q
  ·exact .inl q
  ·exact .inr (by simpa using q)
theorem uq {α:Type}(l:List (Int×α)) (y:Int) (a:α):(xR l y a).length<=l.length+1:=by
 unfold xR
 split
 ·rw [ag];right
 ·rw [ar];exact ak _
theorem gZ {α:Type}{l:List (Int×α)}{y:Int}{a:α}(h:(l.map (·.1)).Nodup):((xR l y a).map (·.1)).Nodup:=by
 unfold xR
 by_cases c:(l.any λz=>decide (z.1=y))=true
 ·rw [if_pos c,cz]
  have:(l.map ((λx=>x.1) ∘ λz=>if z.1=y then (z.1,a) else z))=l.map (·.1):=eP λz _=>by
   show (if z.1=y then (z.1,a) else z).1=z.1
   split <;> rfl
  rw [this]
  exact h
 ·rw [if_neg c,aD]
  refine uK h λz=>c ?_
  obtain ⟨u,b,e⟩:=List.mem_map.mp z
  exact List.any_eq_true.mpr ⟨u,b,decide_eq_true e⟩
structure ScN where
 p:Addr
 q:Addr
 sg:Addr
 gl:Addr
 ll:Addr
 xs:List V
 ys:List V
 zs:List V
 rs:List Rch
 ts:List T3
 ws:List (List Int)
 sk:List (Int×Addr)
 lds:List ↥112
structure ScAt (H:Hp) (sd:Addr) (c:ScN):Prop where
 sd:H sd=some (.dK (scK c.p c.q c.sg c.gl c.ll))
 p:H c.p=some (.lst c.xs)
 rv:qd H c.xs c.rs
 q:H c.q=some (.lst c.ys)
 r3:qP H c.ys c.ts
 gl:H c.gl=some (.lst c.zs)
 gi:yQ H c.zs (c.ws.map (jc c.rs))
 ll:H c.ll=some (.lst (c.lds.map λx=>V.ref x.1))
 sg:Rd H c.sg (.dK (c.sk.map kvA))
 sk:∀z∈c.sk,∃t,H z.2=some (vJ t)/\good t=true
 ld:∀x∈c.lds,Rd H x.1 (.dK (x.2.map kvI))
structure ScOk (b:Addr) (c:ScN):Prop where
 gr:Grown c.rs
 l1:1<=c.rs.length
 l8:c.rs.length<=8
 t1:1<=c.ts.length
 t2:c.ts.length<=12
 tg:c.ts.all good=true
 ro:qg c.rs c.ws
 ldl:c.lds.length=c.ws.length
 nd:(c.lds.map (·.1)).Nodup
 ns:∀x∈c.lds,x.1≠c.sg
 pb:c.p≠b
 qb:c.q≠b
 gb:c.gl≠b
 lb:c.ll≠b
 zb:V.ref b∉c.zs
 k1:(c.sk.map (·.1)).Nodup
 k2:∀z∈c.sk,0<=z.1/\z.1<=99
 k3:c.sk.length<=10
 m1:∀x∈c.lds,(x.2.map (·.1)).Nodup
 m2:∀x∈c.lds,∀z∈x.2,0<=z.1/\z.1<=99/\1<=z.2/\z.2<=9
 m3:∀x∈c.lds,x.2.length<=10
noncomputable def Fr3 (N M:Addr->Prop) (H H':Hp):Prop:=∀c o,H c=some o->¬N c->H' c=some o\/(M c/\∃a kvs,o = .dK kvs/\H' c=some (.frz a (.dK kvs)))
theorem Fr3.at {N:Addr->Prop}(f:Fr3 N M H H') (h:H c=some o) (n:¬N c) (d:∀kvs,o≠.dK kvs):H' c=some o:=by
 rcases f c o h n with h1 | ⟨_,a,kvs,e,_⟩
 ·exact h1
 ·exact absurd e (d kvs)
theorem Fr3.rd {N:Addr->Prop}(f:Fr3 N M H H') {kvs:List (Key×V)}(n:¬N c) (h:Rd H c (.dK kvs)):Rd H' c (.dK kvs):=by
 rcases h with h | ⟨o,h⟩
 ·rcases f c _ h n with h1 | ⟨_,a,b,e,h1⟩
  ·exact .inl h1
  ·cases e
   exact .inr ⟨a,h1⟩
 ·exact .inr ⟨o,f.at h n ↥4⟩
theorem pmM {α β:Type}{F G:α->β->Prop}:∀{l₁:List α}{j:List β},cW F l₁ j->(∀v∈l₁,∀w,F v w->G v w)->cW G l₁ j
 | _,_,.nil,_=>.nil
 | _,_,.cons q r,h=>.cons (h _ (aM ..) _ q) (pmM r λv a=>h v (aK _ a))
theorem ScAt.keep {N:Addr->Prop}{sd:Addr}{c:ScN}(S:ScAt H sd c) (f:Fr3 N M H H') (nT:∀a xs,H a=some (.tup xs)->¬N a) (j:¬N sd) (G:¬M sd) (Y:¬N c.p) (U:¬N c.q) (ng:¬N c.gl) (nl:¬N c.ll) (I:∀a,V.ref a∈c.zs->¬N a) (ns:¬N c.sg) (nd:∀x∈c.lds,¬N x.1):ScAt H' sd c:=by
 have t:∀a xs,H a=some (.tup xs)->H' a=some (.tup xs):=λa xs h=>f.at h (nT a xs h) ↥4
 refine ⟨?_,f.at S.p Y ↥4,S.rv.keep t,f.at S.q U ↥4,S.r3.imp λ_ _ h=>t _ _ h,f.at S.gl ng ↥4,pmM S.gi λv i w ⟨a,d,q⟩=>⟨a,d,f.at q (I a (d ▸ i)) ↥4⟩,f.at S.ll nl ↥4,f.rd ns S.sg,λz e=>?_,λx b=>f.rd (nd x b) (S.ld x b)⟩
 ·rcases f _ _ S.sd j with z | ⟨z,_⟩
  ·exact z
  ·exact absurd z G
 ·obtain ⟨u,k,g⟩:=S.sk z e
  exact ⟨u,t _ _ k,g⟩
theorem ScAt.same {sd:Addr}(S:ScAt H sd c) (s:jo H H'):ScAt H' sd c :=
 S.keep (N:=λ_=>False) (M:=λ_=>False) (λc o h _=>.inl (s c o h)) (λ_ _ _ z=>z) id id id id id id (λ_ _=>id) id (λ_ _=>id)
theorem ScAt.ext {b:Addr}{sd:Addr}(S:ScAt H sd c) (O:ScOk b c) (B:jK L H b) (e:Ext b H H'):ScAt H' sd c:=by
 obtain ⟨_,_,_,_,_,d,_⟩:=B
 have f:∀{a:Addr} {kvs:List (Key×V)},Rd H a (.dK kvs)->¬a=b:=λh z=>by
  rcases h with h | ⟨o,h⟩
  ·exact absurd z (jm h d ↥3)
  ·exact absurd z (jm h d ↥3)
 exact S.keep (N:=λa=>a=b) (M:=λ_=>False) (λc o h n=>.inl (e c o h n)) (λa xs h z=>absurd z (jm h d ↥3)) (jm S.sd d ↥3) id O.pb O.qb O.gb O.lb (λa h z=>O.zb (z ▸ h)) (f S.sg) λx g=>f (S.ld x g)
noncomputable def ScN.D (c:ScN) (a:Addr):Prop:=a=c.sg\/∃x∈c.lds,x.1=a
theorem WO {p q j I G:Addr}{α:Type}{f:α->V}{l:List (Int×α)}:scK p q j I G≠l.map λz=>↥57:=λz=>by
 cases l with
 | nil=>cases z
 | cons u r =>
  have:=congrArg (λl=>l.head?.map (·.1)) z
  cases this
theorem Y1 {H:Hp}{sd a p q j G ll:Addr}{α:Type}{f:α->V}{l:List (Int×α)}(h:H sd=some (.dK (scK p q j G ll))) (r:Rd H a (.dK (l.map λz=>↥57))):a≠sd:=λz=>by
 subst z
 rcases r with r | ⟨o,r⟩
 ·rw [r] at h
  have e:l.map (λz=>↥57)=scK p q j G ll:=by injection h with h;injection h
  exact WO e.symm
 ·rw [r] at h
  cases h
theorem ScAt.nD {sd:Addr}(S:ScAt H sd c):¬c.D sd:=λz=>by
 rcases z with z | ⟨x,a,e⟩
 ·exact Y1 (f:=V.ref) S.sd S.sg z.symm
 ·exact Y1 (f:=V.int) S.sd (S.ld x a) e
structure ScB (L b:Addr) (H H2:Hp) (sd:Addr) (c:ScN):Prop where
 S:ScAt H2 sd c
 O:ScOk b c
 r1:H2 c.sg=some (.dK (c.sk.map kvA))
 r2:∀x∈c.lds,H2 x.1=some (.dK (x.2.map kvI))
 B:jK L H2 b
 X:Ext b H H2
 f1:H c.sg=none
 f2:∀x∈c.lds,H x.1=none
theorem ScB.take {b:Addr}{j:Addr}(S:ScB L b H H2 j c) (B:jK L G b) (X:Ext b H2 G):ScB L b H G j c:=by
 have a:∃xs,H2 b=some (.lst xs):=by
  obtain ⟨_,_,_,_,_,a,_⟩:=S.B
  exact ⟨_,a⟩
 obtain ⟨_,a⟩:=a
 exact ⟨S.S.ext S.O S.B X,S.O,X _ _ S.r1 (jm S.r1 a ↥3),λx d=>X _ _ (S.r2 x d) (jm (S.r2 x d) a ↥3),B,S.X.trans X,S.f1,S.f2⟩
theorem ScB.same {b:Addr}{j:Addr}(S:ScB L b H H2 j c) (s:jo H2 G):ScB L b H G j c:=S.take (S.B.same s) (Ext.of_same s)
theorem vF (B:jK L j b) (e:Ext b j Hb):jn j Hb:=by
 obtain ⟨ns,a,r,c,d,h1,_⟩:=B
 exact jn.lst e h1
theorem ScB.single {b:Addr}{G t:Addr}{y:Int}(S:ScB L b H H2 G c) (U:0<=y) (I:y<=99) (Y:H2 t=some (vJ r)) (hg:good r=true) (hl:c.sk.length+1<=10) :
  ScB L b H (upd H2 c.sg (.dK (qK (c.sk.map kvA) (.inl y) (.ref t)))) G { c with sk:=xR c.sk y t }:=by
 have e:qK (c.sk.map kvA) (.inl y) (.ref t)=(xR c.sk y t).map kvA:=gg V.ref c.sk y t
 rw [e]
 have i:∀{a:Addr} {o:HO},H2 a=some o->(∀kvs,o≠.dK kvs)->(upd H2 c.sg (.dK ((xR c.sk y t).map kvA))) a=some o:=λh n=>by rw [j8 (jm h S.r1 (n _))];exact h
 have s:G≠c.sg:=(Y1 (f:=V.ref) S.S.sd S.S.sg).symm
 have k:∃xs,H2 b=some (.lst xs):=by
  obtain ⟨_,_,_,_,_,k,_⟩:=S.B
  exact ⟨_,k⟩
 obtain ⟨_,k⟩:=k
 have l:∃xs,H2 L=some (.lst xs):=by
  obtain ⟨_,_,_,_,_,_,_,l,_⟩:=S.B
  exact ⟨_,l⟩
 obtain ⟨_,l⟩:=l
 refine ⟨⟨by rw [j8 s];exact S.S.sd,i S.S.p ↥4,S.S.rv.keep λ_ _ h=>i h ↥4,i S.S.q ↥4,S.S.r3.imp λ_ _ h=>i h ↥4,i S.S.gl ↥4,pmM S.S.gi λv E w ⟨a,D,q⟩=>⟨a,D,i q ↥4⟩,i S.S.ll ↥4,.inl j9,λz m=>?_,λx j=>.inl (by rw [j8 (S.O.ns x j)];exact S.r2 x j)⟩,?_,j9,λx j=>by rw [j8 (S.O.ns x j)];exact S.r2 x j,S.B.put (jm S.r1 k ↥3) (jm S.r1 l ↥3),λd o A n=>?_,S.f1,S.f2⟩
 ·rcases kT m with z | z
  ·obtain ⟨u,C,g⟩:=S.S.sk _ z
   exact ⟨u,i C ↥4,g⟩
  ·subst z
   exact ⟨r,i Y ↥4,hg⟩
 ·have O:=S.O
  exact ⟨O.gr,O.l1,O.l8,O.t1,O.t2,O.tg,O.ro,O.ldl,O.nd,O.ns,O.pb,O.qb,O.gb,O.lb,O.zb,gZ O.k1,λz m=>by
   rcases kT m with q | q
   ·exact O.k2 z q
   ·subst q;exact ⟨U,I⟩,aN (uq _ _ _) hl,O.m1,O.m2,O.m3⟩
 ·rw [j8 (j4 A S.f1)]
  exact S.X d o A n
theorem uI {α β:Type}{l:List (α×β)}{n:Nat}{a:α}{u v:β}(j:(l.map (·.1)).Nodup) (I:l[n]? = some (a,u)) {x:α×β}(G:x∈l.set n (a,v)):x=(a,v)\/(x∈l/\x.1≠a):=by
 obtain ⟨i,hi,e⟩:=List.mem_iff_getElem.mp G
 have b:i<l.length:=by rw [lq] at hi;exact hi
 obtain ⟨d,c⟩:=List.getElem?_eq_some_iff.mp I
 by_cases q:n=i
 ·subst q
  rw [List.getElem_set_self] at e
  exact .inl e.symm
 ·rw [List.getElem_set_ne q] at e
  refine .inr ⟨e ▸ cJ b,λz=>q ?_⟩
  have h1:(l.map (·.1))[n]'(by rw [ag];exact d)=(l.map (·.1))[i]'(by rw [ag];exact b):=by
   rw [dR,dR,c,e,z]
  rcases Nat.lt_trichotomy n i with g | g | g
  ·exact absurd h1 (List.pairwise_iff_getElem.mp j n i _ _ g)
  ·exact g
  ·exact absurd h1.symm (List.pairwise_iff_getElem.mp j i n _ _ g)
theorem ZS {α β:Type}{l:List (α×β)}{n:Nat}{a:α}{u v:β}(j:l[n]? = some (a,u)):(l.set n (a,v)).map (·.1)=l.map (·.1):=by
 obtain ⟨b,c⟩:=List.getElem?_eq_some_iff.mp j
 rw [List.map_set]
 refine mw λi=>?_
 rw [iL]
 by_cases q:n=i
 ·subst q
  rw [if_pos rfl,if_pos (by rw [ag];exact b),aH,j]
  rfl
 ·rw [if_neg q]
theorem ScB.leap {b:Addr}{I a:Addr}{n:Nat}{y m:Int}{ns:List (Int×Int)}(S:ScB L b H H2 I c) (G:c.lds[n]? = some (a,ns)) (Y:0<=y) (U:y<=99) (m0:1<=m) (m1:m<=9) (hl:ns.length+1<=10) :
  ScB L b H (upd H2 a (.dK (qK (ns.map kvI) (.inl y) (.int m)))) I { c with lds:=c.lds.set n (a,xR ns y m) }:=by
 have e:qK (ns.map kvI) (.inl y) (.int m)=(xR ns y m).map kvI:=gg V.int ns y m
 rw [e]
 have k:=aC G
 have t:=S.r2 _ k
 have j:∀{d:Addr} {o:HO},H2 d=some o->(∀kvs,o≠.dK kvs)->(upd H2 a (.dK ((xR ns y m).map kvI))) d=some o:=λh n=>by rw [j8 (jm h t (n _))];exact h
 have D:I≠a:=(Y1 (f:=V.int) S.S.sd (S.S.ld _ k)).symm
 have r:∃xs,H2 b=some (.lst xs):=by
  obtain ⟨_,_,_,_,_,r,_⟩:=S.B
  exact ⟨_,r⟩
 obtain ⟨_,r⟩:=r
 have s:∃xs,H2 L=some (.lst xs):=by
  obtain ⟨_,_,_,_,_,_,_,s,_⟩:=S.B
  exact ⟨_,s⟩
 obtain ⟨_,s⟩:=s
 have fs:=ZS (v:=xR ns y m) G
 have J: (↥144).map (λx=>V.ref x.1)=c.lds.map λx=>V.ref x.1:=by
  have:=congrArg (Ai V.ref) fs
  rw [cz,cz] at this
  exact this
 have C:c.sg≠a:=(S.O.ns _ k).symm
 have r2:∀x∈c.lds.set n (a,xR ns y m),(upd H2 a (.dK ((xR ns y m).map kvI))) x.1=some (.dK (x.2.map kvI)):=λx i=>by
  rcases uI S.O.nd G i with z | ⟨z,w⟩
  ·subst z
   exact j9
  ·rw [j8 w]
   exact S.r2 x z
 have mem:∀x∈c.lds.set n (a,xR ns y m),∃l∈c.lds,l.1=x.1:=λx i=>by
  have:x.1∈ (↥144).map (·.1):=bV i
  rw [fs] at this
  exact List.mem_map.mp this
 have O:=S.O
 refine ⟨⟨by rw [j8 D];exact S.S.sd,j S.S.p ↥4,S.S.rv.keep λ_ _ h=>j h ↥4,j S.S.q ↥4,S.S.r3.imp λ_ _ h=>j h ↥4,j S.S.gl ↥4,pmM S.S.gi λv N w ⟨a,M,q⟩=>⟨a,M,j q ↥4⟩,?_,.inl (by show upd _ _ _ c.sg=_;rw [j8 C];exact S.r1),λz K=>?_,λx i=>.inl (r2 x i)⟩,⟨O.gr,O.l1,O.l8,O.t1,O.t2,O.tg,O.ro,?_,?_,?_,O.pb,O.qb,O.gb,O.lb,O.zb,O.k1,O.k2,O.k3,?_,?_,?_⟩,(by show upd _ _ _ c.sg=_;rw [j8 C];exact S.r1),r2,S.B.put (jm t r ↥3) (jm t s ↥3),λd o E n=>?_,S.f1,?_⟩
 ·show _=some (HO.lst ((↥144).map λx=>V.ref x.1))
  rw [J]
  exact j S.S.ll ↥4
 ·obtain ⟨u,A,g⟩:=S.S.sk _ K
  exact ⟨u,j A ↥4,g⟩
 ·show (↥144).length=_
  rw [lq]
  exact O.ldl
 ·show ((↥144).map (·.1)).Nodup
  rw [fs]
  exact O.nd
 ·intro x i
  obtain ⟨l,h1,h2⟩:=mem x i
  rw [<- h2]
  exact O.ns l h1
 ·intro x i
  rcases uI S.O.nd G i with z | ⟨z,w⟩
  ·subst z;exact gZ (O.m1 _ k)
  ·exact O.m1 x z
 ·intro x i
  rcases uI S.O.nd G i with z | ⟨z,w⟩
  ·subst z
   intro u A
   rcases kT A with q | q
   ·exact O.m2 _ k u q
   ·subst q;exact ⟨Y,U,m0,m1⟩
  ·exact O.m2 x z
 ·intro x i
  rcases uI S.O.nd G i with z | ⟨z,w⟩
  ·subst z;exact aN (uq _ _ _) hl
  ·exact O.m3 x z
 ·rw [j8 (j4 E (S.f2 _ k))]
  exact S.X d o E n
 ·intro x i
  obtain ⟨l,h1,h2⟩:=mem x i
  rw [<- h2]
  exact S.f2 l h1
theorem put4 :qK (xh [] [↥27,↥49,↥79]) (.inr "grounds") (.ref G)=[(↥27:Key×V),↥49,↥79,(.inr "grounds",.ref G)]:=by
 have d:(qK [] (.inr "reaches") (.ref p):List (Key×V))=[↥27]:=yq _ vt
 have c:qK [(↥27:Key×V)] (.inr "rows") (.ref q)=[↥27,↥49]:=yq _ ((jx (show ↥78≠bw (aj "rows") by decide +kernel)).trans vt)
 have b:qK [(↥27:Key×V),↥49] (.inr "single") (.ref j)=[↥27,↥49,↥79]:=yq _ ((jx (show ↥78≠bw (aj "single") by decide +kernel)).trans ((jx (show (bw (aj "rows"):Key)≠bw (aj "single") by decide +kernel)).trans vt))
 have a:qK [(↥27:Key×V),↥49,↥79] (.inr "grounds") (.ref G)=[(↥27:Key×V),↥49,↥79,(.inr "grounds",.ref G)]:=yq _ ((↥115).trans ((↥86).trans ((↥81).trans vt)))
 have e:xh [] [(↥27:Key×V),↥49,↥79]=[↥27,↥49,↥79]:=by
  show qK (qK (qK ([]:List (Key×V)) (.inr "reaches") (.ref p)) (.inr "rows") (.ref q)) (.inr "single") (.ref j)=_
  rw [d,c,b]
 rw [e,a]
theorem put5 :qK [(↥27:Key×V),↥49,↥79,(.inr "grounds",.ref G)] (.inr "leaps") (.ref ll)=scK p q j G ll :=
 yq _ ((jx (show ↥78≠bw (aj "leaps") by decide +kernel)).trans ((jx (show (bw (aj "rows"):Key)≠bw (aj "leaps") by decide +kernel)).trans ((jx (show (bw (aj "single"):Key)≠bw (aj "leaps") by decide +kernel)).trans ((jx (show (bw (aj "grounds"):Key)≠bw (aj "leaps") by decide +kernel)).trans vt))))
theorem QH (p q G j:Addr):qE [(↥27:Key×V),↥49,(.inr "single",.ref G),(.inr "grounds",.ref j)] (.inr "grounds")=some (.ref j):=(↥115).trans ((↥86).trans ((↥81).trans xF))
theorem ZV {rs:List Rch}(G:Grown rs):∀r∈rs,r.2.length<=12:=λr a=>by
 obtain ⟨i,hi,e⟩:=List.mem_iff_getElem.mp a
 have:=Qx G.ok (ae hi)
 rw [e] at this
 unfold okR at this
 rw [bt,bt] at this
 have:=of_decide_eq_true this.1.2
 right
theorem UP {v:Int}(a:0<=v) (b:v<3):∃n,atI [V.int 1,V.int 4,V.int 9] v=some (V.int n)/\0<n/\n<=9:=by
 have h:v=0\/v=1\/v=2:=()
 rcases h with rfl | rfl | rfl
 ·exact ⟨1,rfl,(),()⟩
 ·exact ⟨4,rfl,(),()⟩
 ·exact ⟨9,rfl,(),()⟩
theorem W0 {v:Int}(a:0<=v) (b:v<3):∃n,atI [V.int 1,V.int 3,V.int 7] v=some (V.int n)/\0<n/\n<=7:=by
 have h:v=0\/v=1\/v=2:=()
 rcases h with rfl | rfl | rfl
 ·exact ⟨1,rfl,(),()⟩
 ·exact ⟨3,rfl,(),()⟩
 ·exact ⟨7,rfl,(),()⟩
theorem GW {v:Int}(a:0<=v) (b:v<2):∃n,atI [V.int 2,V.int 9] v=some (V.int n)/\0<n/\n<=9:=by
 have h:v=0\/v=1:=()
 rcases h with rfl | rfl
 ·exact ⟨2,rfl,(),()⟩
 ·exact ⟨9,rfl,(),()⟩
theorem JM (L:xz rs) (h:1<=rs.length):1<=(ju rs).length:=by
 have:(rs.length-1)∈ju rs:=by
  refine List.mem_filter.mpr ⟨List.mem_range.mpr (),?_⟩
  unfold jR
  rw [decide_eq_false]
  ·rfl
  ·intro z
   have:=Ze L z
   right
 exact iD this
inductive spScene  (vs:List V) (H:Hp) (Q:VK) (z_3:XK):Prop
 | mk (L b:Addr) (_:vs=[.ref b]) (_:jK L H b) (_:∀sd H' c,jK L H' b->Ext b H H'->ScAt H' sd c->ScOk b c->Q (.ref sd) H')
theorem qZ:FnScope ["_law_box_here","_law_reaches_here","_law_scene_here","_law_turn","_law_lane"] ["_law_box_here"] (ja zp):=by walk_at "s"
theorem Vm (nb:Nb2 mg) (j:Cal P w K mg base 2 "_law_take" ["_law_box_here","_law_size"] spTakeL) (Y:Cal P w K mg base 4 "_law_reaches" ["_law_box_here"] spReachesL) (ac:Cal P w K mg base 4 "_law_round" ["_law_box_here"] spRoundMade) (ab:Cal P w K mg base 1 "_law_ground" ["_law_reaches_here","_law_road"] (spGround K)) (al:Cal P w K mg base 1 "_law_roads" ["_law_reaches_here"] (spRoadsL K)) (G:Cal P w K mg base 3 "_law_year" ["_law_box_here"] spYear) (U:Cal P w K mg base 3 "_law_weather" ["_law_box_here"] spWeather)
  (F:Fun K "_law_scene" "_law_scene" zp f fd):FnOk P w K mg base CX0 5 f fd ["_law_box_here"] spScene:=by
 refine F.ok qZ ↥33 (λd7 A outer s H vs Q E m h=>?_)
 ·obtain ⟨L,b,rfl,_⟩:=h
  rfl
 ·obtain ⟨L,b,rfl,B,k⟩:=h
  refine ⟨_,(j6 (uc (i:=1) qZ.nd rfl (lr rfl) (je Y (m.mono ⋯) rfl ↥53))
   (j6 (js 2 qZ.nd (UL (kJ jC (pv 1) (kJ jC (je ac (m.mono ⋯) rfl ↥53) (kJ jC uz Uf))) rfl rfl (λz=>by cases z) ⋯))
   (j6 (yt (qk m) (pv 2) jC (qc (osc:=(ja zp)) (ON:=["_law_box_here","_law_reaches_here","_law_scene_here","_law_turn","_law_lane"]) (N:=["_law_road","_law_reaches_here"]) (own:=1) (caps:=[1]) ⟨rfl,∅,∅,∅,rfl,∅⟩ rfl rfl rfl (jX K (je al (m.mono ⋯) rfl ↥47)) (λ_ _ _ _ _=>(jd (i:=0) (show bp (["_law_road","_law_reaches_here"]:List Str) by decide +kernel) rfl (aR rfl))) ↥38 (λ_ _ _ _ _=>(je ab (m.mono ⋯) rfl (j0 (pv 1) ↥53)))) rfl)
   (uG (yt (qk m) (pv 2) jC (qc (osc:=(ja zp)) (ON:=["_law_box_here","_law_reaches_here","_law_scene_here","_law_turn","_law_lane"]) (N:=["_law_ground_here"]) (own:=1) (caps:=[]) ⟨rfl,∅,∅,∅,rfl,∅⟩ rfl rfl rfl (jX K ↥145) (λ_ _ _ _ _=>(jd (i:=0) (show bp (["_law_ground_here"]:List Str) by decide +kernel) rfl (aR rfl))) ↥38 (λ_ _ _ _ _=>uz)) rfl)
   (uG (qA bh rfl (qy rfl nb.b_range (j0 (je j (m.mono ⋯) rfl (j0 (pv 0) (j0 (jp (jg K) (jB (j0 j7 ↥143)) (je j (m.mono ⋯) rfl ↥10) (λ_ _=>rfl)) j5))) j5)) (jd (i:=3) qZ.nd rfl (aR rfl)) (jb (yt (qk m) ↥145 (je G (m.mono ⋯) rfl ↥53) (je U (m.mono ⋯) rfl ↥53) rfl)))
   (j6 (qA bh rfl (qy rfl nb.b_range (j0 (je j (m.mono ⋯) rfl (j0 (pv 0) (j0 (jp (jg K) (jB (j0 j7 ↥143)) (je j (m.mono ⋯) rfl ↥10) (λ_ _=>rfl)) j5))) j5)) (jd (i:=3) qZ.nd rfl (aR rfl)) (j6 (js 4 qZ.nd (je j (m.mono ⋯) rfl (j0 (pv 0) (j0 (jf (ji K) rfl nb.b_len b9 (j0 ↥145 j5)) j5))))
   (jb (yt (qk m) (jp (jg K) ↥145 (pv 4) (λ_ _=>rfl)) (je G (m.mono ⋯) rfl ↥53) (jr jL j7 ↥34) rfl))))
   (jb (jk (pv 2))))))))),?_⟩
  walk_at "r"
  refine ⟨L,b,rfl,B,λp H1 xs rs B1 X1 hp bq r1 g1 l1 l8=>?_⟩
  have pb:p≠b:=B.ne hp
  walk_at "r"
  intro sd C
  have am:sd≠b:=B1.ne C
  have a3:H sd=none:=X1.free C am
  walk_at "r"
  have Ba:jK L (upd H1 sd (.dK [])) b:=B1.put am (B1.neL C)
  refine ⟨L,b,rfl,Ba,λq Hb ys ts Bb Xb hq bn bi a6 c4=>?_⟩
  have qb:q≠b:=Ba.ne hq
  have cm:q≠sd:=λz=>by rw [z,j9] at hq;cases hq
  have an:Hb sd=some (.dK []):=Xb _ _ j9 am
  have pB:Hb p=some (.lst xs):=Xb _ _ (by rw [j8 (j4 bq C)];exact bq) pb
  have rB:qd Hb xs rs:=(r1.keep (jn.same (jo.new C))).keep (vF Ba Xb)
  have XB:Ext b H Hb:=(X1.trans (Ext.new C)).trans Xb
  walk_at "r"
  intro g az
  have ch:g≠b:=Bb.ne az
  have ci:H g=none:=XB.free az ch
  have as:g≠sd:=(j4 an az).symm
  walk_at "r"
  refine ⟨by rw [j8 as.symm];exact an,[↥27,↥49,(.inr "single",.ref g)],rfl,by show 3<=15;decide,?_⟩
  have sC:jo Hb (upd Hb g (.dK [])):=jo.new az
  have nD:∀{a:Addr} {o:HO},Hb a=some o->a≠sd->↥7 a=some o:=λh n=>by rw [j8 n];exact sC _ _ h
  have dD: ↥7 sd=some (.dK (xh [] [↥27,↥49,(.inr "single",.ref g)])):=j9
  have pD:=nD pB (jm pB an ↥3)
  have rD:qd ↥7 xs rs:=rB.keep λ_ _ h=>nD h (jm h an ↥3)
  have qD:=nD bn cm
  have bl:qP ↥7 ys ts:=bi.imp λ_ _ h=>nD h (jm h an ↥3)
  have be: ↥7 g=some (.dK []):=by rw [j8 as];exact j9
  have BD:jK L ↥7 b:=(Bb.same sC).put am (B1.neL C)
  have XD:Ext b H ↥7:=λc o h n=>nD (XB c o h n) (j4 h a3)
  clear nD sC az an pB rB XB bn bi Bb Xb hq Ba
  generalize ↥7=Hd at *
  have Ld:=qm g1.ok
  walk_at "r"
  refine ⟨p,xs,rs,rfl,pD,rD,Ld,(),λl He out ws D J w1 hR s1=>?_⟩
  walk_at "r"
  refine ⟨⟨_,SqL.of J⟩,λgl M=>?_⟩
  have a8:out.length=ws.length:=aP w1
  have c3:ws.length<=6:=by rw [hR.length];exact g1.heads
  have a9:∀r∈rs,r.2.length<=100:=λr m=>aN (ZV g1 r m) ⋯
  have BE:=BD.same s1
  have dk:gl≠b:=BE.ne M
  refine qv (K:=K) (a:=l) (xs:=out) (acc:=gl) (λi σ H2=>∃(x:Option V) (zs:List V),σ=[x,some (.ref p)]/\H2 gl=some (.lst zs)/\zs.length=i/\cW (λv (w:List Int)=>∃a,v=V.ref a/\H2 a=some (.lst (w.map V.int))/\He a=none/\a≠gl) zs ((ws.take i).map (jc rs))/\Ext gl He H2) ?_ ?_ ?_ ?_
  ·exact ⟨none,[],rfl,j9,rfl,.nil,Ext.put⟩
  ·rintro i σ H2 hi ⟨x,zs,rfl,h2,Z,r2,e2⟩
   exact SqL.of (e2 _ _ J (j4 J M))
  ·rintro i v σ H2 hv ⟨x,zs,rfl,h2,Z,r2,e2⟩
   obtain ⟨wy,a5,a,rfl,bs⟩:=Paired.get w1 hv
   have hi:=(List.getElem?_eq_some_iff.mp a5).1
   obtain ⟨x',a4,b1⟩:=hR.mem (aC a5)
   have dd:=e2 _ _ bs (j4 bs M)
   have bm:=s1 _ _ pD
   have d3:=uU Ld x' (xD a4)
   have:=xD a4
   walk_at "r"
   refine ⟨p,a,xs,rs,wy,rfl,e2 _ _ bm (j4 bm M),(rD.keep (jn.same s1)).keep (jn.new e2 M),a9,dd,by rw [b1];exact zq Ld x' (xD a4),by rw [b1];right,λt H3 ht c8 s3=>?_⟩
   have ta:t≠gl:=(j4 h2 ht).symm
   refine ⟨zs,s3 _ _ h2,jj (),some (.ref a),zs++[.ref t],rfl,j9,by rw [ar,Z];rfl,?_,λc o hc n=>by rw [j8 n];exact s3 _ _ (e2 c o hc n)⟩
   rw [qG (jc rs) ws i wy a5]
   exact cE (Paired.mapP r2 λv wy ⟨a,e,I,h0,na⟩=>⟨a,e,by rw [j8 na];exact s3 _ _ I,h0,na⟩) ⟨t,rfl,by rw [j8 ta];exact c8,e2.free ht ta,ta⟩
  rintro σ H2 ⟨x,zs,rfl,h2,Z,r2,e2⟩
  rw [a8,bg] at r2
  have b0:yQ H2 zs (ws.map (jc rs)):=Paired.mapP r2 λv wy ⟨a,e,I,h0,na⟩=>⟨a,e,I⟩
  have zb:V.ref b∉zs:=λz=>by
   obtain ⟨_,a,e,_,h0,_⟩:=pm r2 _ z
   cases e
   exact absurd rfl (BE.ne h0)
  have s2:jo Hd H2:=λc o hc=>e2 _ _ (s1 _ _ hc) (j4 (s1 _ _ hc) M)
  have d4:Hd gl=none:=s1.free M
  walk_at "r"
  refine ⟨sd,_,rfl,wt.k (k:=.inr "grounds") (s2 _ _ dD) (jj (aN (zX _ _) (by show 0+3<=1000;decide))),?_⟩
  rw [put4]
  have nF:∀{a:Addr} {o:HO},H2 a=some o->(∀kvs,o≠.dK kvs)->(upd H2 sd ↥5) a=some o:=λh n=>by rw [j8 (jm h (s2 _ _ dD) (n _))];exact h
  have dF:(upd H2 sd ↥5) sd=some ↥5:=j9
  have pF:=nF (s2 _ _ pD) ↥4
  have qF:=nF (s2 _ _ qD) ↥4
  have rF:qd (upd H2 sd ↥5) xs rs:=rD.keep λ_ _ h=>nF (s2 _ _ h) ↥4
  have bk:qP (upd H2 sd ↥5) ys ts:=bl.imp λ_ _ h=>nF (s2 _ _ h) ↥4
  have gF:=nF h2 ↥4
  have bv:yQ (upd H2 sd ↥5) zs (ws.map (jc rs)):=Paired.mapP b0 λv wy ⟨a,e,I⟩=>⟨a,e,nF I ↥4⟩
  have a2:(upd H2 sd ↥5) g=some (.dK []):=by rw [j8 as];exact s2 _ _ be
  have BF:jK L (upd H2 sd ↥5) b:=(BD.same s2).put am (B1.neL C)
  have XF:Ext b H (upd H2 sd ↥5):=λc o h n=>by rw [j8 (j4 h a3)];exact s2 _ _ (XD c o h n)
  clear nF b0 s2 h2 r2 e2 BE M s1 w1 J D pD rD qD bl be BD XD dD a9
  generalize (upd H2 sd ↥5)=Hf at *
  have c2:zs.length<=6:=()
  refine ⟨λσ H5=>∃c,σ=[some (.ref b),some (.ref p),some (.ref sd),none,none]/\ScB L b H H5 sd c/\c.sk=[]/\∀x∈c.lds,x.2=[],?_,?_⟩
  ·walk_at "r"
   refine ⟨sd,.ref gl,rfl,by rw [<- QH p q g gl];exact qQ.k (k:=.inr "grounds") dF,?_⟩
   walk_at "r"
   refine ⟨⟨_,SqL.of gF⟩,λle J=>?_⟩
   have cy:le≠b:=BF.ne J
   refine qv (K:=K) (a:=gl) (xs:=zs) (acc:=le) (λi σ He=>∃(x:Option V) (lds:List ↥112),σ=[x]/\He le=some (.lst (lds.map λx=>V.ref x.1))/\lds.length=i/\(∀x∈lds,He x.1=some (.dK [])/\x.2=[]/\Hf x.1=none/\x.1≠le)/\(lds.map (·.1)).Nodup/\Ext le Hf He) ?_ ?_ ?_ ?_
   ·exact ⟨none,[],rfl,j9,rfl,(λx z=>by cases z),eV,Ext.put⟩
   ·rintro i σ He hi ⟨x,lds,rfl,he,D,R,nn,e⟩
    exact SqL.of (e _ _ gF (j4 gF J))
   ·rintro i v σ He hv ⟨x,lds,rfl,he,D,R,nn,e⟩
    have hi:=(List.getElem?_eq_some_iff.mp hv).1
    walk_at "r"
    intro d aL
    have dl:d≠le:=(j4 he aL).symm
    refine ⟨_,(by rw [j8 (cV dl)];exact he),by rw [ag];exact jj (),some v,lds++[(d,[])],rfl,(by rw [j9,aD];rfl),(by rw [ar,D];rfl),λy hy=>?_,?_,λc o hc n=>?_⟩
    ·rcases List.mem_append.mp hy with z | z
     ·obtain ⟨h1,h2,h3,h4⟩:=R y z
      exact ⟨by rw [j8 h4,j8 (j4 h1 aL)];exact h1,h2,h3,h4⟩
     ·obtain rfl:y=(d,[]):=by simpa using z
      exact ⟨by rw [j8 dl];exact j9,rfl,e.free aL dl,dl⟩
    ·rw [aD]
     refine uK nn λz=>?_
     obtain ⟨y,hy,ey⟩:=List.mem_map.mp z
     have:=(R y hy).1
     rw [ey,aL] at this
     cases this
    ·rw [j8 n,j8 (j4 (e c o hc n) aL)]
     exact e c o hc n
   ·rintro σ He ⟨x,lds,rfl,he,D,R,nn,e⟩
    have T:jo Hf He:=λc o h=>e c o h (j4 h J)
    walk_at "r"
    refine ⟨sd,_,rfl,wt.k (k:=.inr "leaps") (T _ _ dF) (by show 4<sizeLine;decide),?_⟩
    rw [put5]
    have nG:∀{a:Addr} {o:HO},He a=some o->(∀kvs,o≠.dK kvs)->(upd He sd (.dK (scK p q g gl le))) a=some o:=λh n=>by rw [j8 (jm h (T _ _ dF) (n _))];exact h
    have lG:∀x∈lds,(upd He sd (.dK (scK p q g gl le))) x.1=some (.dK (x.2.map kvI)):=λx u=>by
     obtain ⟨h1,h2,h3,h4⟩:=R x u
     rw [j8 (j4 dF h3).symm,h2]
     exact h1
    have bd:(upd He sd (.dK (scK p q g gl le))) g=some (.dK []):=by rw [j8 as];exact T _ _ a2
    refine ⟨⟨p,q,g,gl,le,xs,ys,zs,rs,ts,ws,[],lds⟩,rfl,⟨⟨j9,nG (T _ _ pF) ↥4,rF.keep λ_ _ h=>nG (T _ _ h) ↥4,nG (T _ _ qF) ↥4,bk.imp λ_ _ h=>nG (T _ _ h) ↥4,nG (T _ _ gF) ↥4,Paired.mapP bv λv wy ⟨a,e,I⟩=>⟨a,e,nG (T _ _ I) ↥4⟩,nG he ↥4,.inl bd,(λz Z=>by cases Z),λx u=>.inl (lG x u)⟩,
     ⟨g1,l1,l8,a6.1,a6.2,c4,hR,D.trans (Z.trans a8),nn,λx u=>(j4 a2 (R x u).2.2.1).symm,pb,qb,dk,cy,zb,eV,(λz Z=>by cases Z),aB _,(λx u=>by rw [(R x u).2.1];exact eV),(λx u=>by rw [(R x u).2.1];intro z Z;cases Z),(λx u=>by rw [(R x u).2.1];exact aB _)⟩,bd,lG,(BF.same T).put am (B1.neL C),λc o h n=>?_,ci,λx u=>?_⟩,rfl,λx u=>(R x u).2.1⟩
    ·rw [j8 (j4 h a3)]
     exact T _ _ (XF c o h n)
    ·exact XF.free (R x u).2.2.1 (BF.ne (R x u).2.2.1)
  rintro σ H5 ⟨c,rfl,S5,k5,l5⟩
  clear dF pF qF rF bk gF bv a2 BF XF zb a8 c3 Z c2
  refine ⟨λσ H6=>∃(x:Option V) (c:ScN),σ=[some (.ref b),some (.ref p),some (.ref sd),x,none]/\ScB L b H H6 sd c/\∀x∈c.lds,x.2=[],?_,?_⟩
  ·walk_at "r"
   refine ⟨by show 3<=sizeLine;decide,λl6 H6 dc cb s6=>?_⟩
   have S6:=S5.same s6
   have c0:l6≠b:=S5.B.ne dc
   walk_at "r"
   refine ⟨L,b,_,rfl,S6.B,⟨⋯,⋯⟩,λv7 H7 p7 q7 B7 X7=>?_⟩
   have S7:=S6.take B7 X7
   obtain ⟨n,hn,n0,n1⟩:=UP p7 q7
   refine ⟨_,_,_,_,rfl,rfl,SqL.of (X7 _ _ cb c0),hn,?_⟩
   walk_at "r"
   refine ⟨L,b,_,rfl,S7.B,⟨n0,()⟩,λv8 H8 p8 q8 B8 X8=>?_⟩
   have S8:=S7.take B8 X8
   walk_at "r"
   refine ⟨(),(),?_⟩
   refine qI (λi σ H2=>∃(x:Option V) (c:ScN),σ=[some (.ref b),some (.ref p),some (.ref sd),x,none]/\ScB L b H H2 sd c/\c.sk.length<=i/\∀x∈c.lds,x.2=[]) ?_ ?_ ?_
   ·exact ⟨none,c,rfl,S8,by rw [k5];exact ak _,l5⟩
   ·rintro i σ H2 hi ⟨x,c,rfl,S,hk,D⟩
    walk_at "r"
    refine ⟨L,b,rfl,S.B,λt H9 r B9 X9 ht hg=>?_⟩
    have S9:=S.take B9 X9
    walk_at "r"
    refine ⟨sd,.ref c.sg,rfl,by rw [<- yg c.p c.q c.sg c.gl c.ll];exact qQ.k (k:=.inr "single") S9.S.sd,?_⟩
    walk_at "r"
    refine ⟨L,b,rfl,S9.B,λy ds y0 y1 ba a0=>?_⟩
    have ap:=S9.take ba a0
    refine ⟨c.sg,_,rfl,wt.k (k:=.inl y) ap.r1 (by rw [ag];exact jj (by have:=ap.O.k3;right)),?_⟩
    exact ⟨_,{ c with sk:=xR c.sk y t },rfl,ap.single y0 y1 (a0 _ _ ht (S9.B.ne_tup ht)) hg (),aN (uq _ _ _) (),D⟩
   ·rintro σ H2 ⟨x,c,rfl,S,hk,D⟩
    exact ⟨x,c,rfl,S,D⟩
  clear S5 k5 l5
  rintro σ H6 ⟨x,c,rfl,S6,l6⟩
  walk_at "r"
  refine ⟨by show 3<=sizeLine;decide,λl7 H7 db ca s7=>?_⟩
  have S7:=S6.same s7
  have cL:l7≠b:=S6.B.ne db
  walk_at "r"
  refine ⟨L,b,_,rfl,S7.B,⟨⋯,⋯⟩,λv8 H8 p8 q8 B8 X8=>?_⟩
  have S8:=S7.take B8 X8
  obtain ⟨n,hn,n0,n1⟩:=W0 p8 q8
  refine ⟨_,_,_,_,rfl,rfl,SqL.of (X8 _ _ ca cL),hn,?_⟩
  walk_at "r"
  refine ⟨L,b,_,rfl,S8.B,⟨n0,()⟩,λv9 H9 p9 q9 B9 X9=>?_⟩
  have S9:=S8.take B9 X9
  walk_at "r"
  refine ⟨(),(),?_⟩
  refine qI (λi σ H2=>∃(x y:Option V) (c:ScN),σ=[some (.ref b),some (.ref p),some (.ref sd),x,y]/\ScB L b H H2 sd c/\∀x∈c.lds,x.2.length<=i) ?_ ?_ ?_
  ·exact ⟨x,none,c,rfl,S9,λx u=>by rw [l6 x u];exact ak _⟩
  ·rintro i σ H2 hi ⟨x,y',c,rfl,S,D⟩
   have d2:1<=c.ws.length:=by
    rw [S.O.ro.length]
    exact JM (qm S.O.gr.ok) S.O.l1
   have d0:c.zs.length=c.ws.length:=(aP S.S.gi).trans (ag _)
   have d1:c.ws.length<=6:=by rw [S.O.ro.length];exact S.O.gr.heads
   walk_at "r"
   refine ⟨sd,.ref c.gl,rfl,by rw [<- zG c.p c.q c.sg c.gl c.ll];exact qQ.k (k:=.inr "grounds") S.S.sd,?_⟩
   walk_at "r"
   refine ⟨c.gl,_,rfl,.inl (SqL.of S.S.gl),?_⟩
   walk_at "r"
   refine ⟨L,b,_,rfl,S.B,⟨(),()⟩,λln ds ct dV ba a0=>?_⟩
   have ap:=S.take ba a0
   walk_at "r"
   refine ⟨by show 2<=sizeLine;decide,λc1 ed cd bc cl=>?_⟩
   have b5:=ap.same cl
   have b6:c1≠b:=ap.B.ne cd
   walk_at "r"
   refine ⟨L,b,_,rfl,b5.B,⟨⋯,⋯⟩,λdy ec cs cr dx b2=>?_⟩
   have b4:=b5.take dx b2
   obtain ⟨n,hn,n0,n1⟩:=GW cs cr
   refine ⟨_,_,_,_,rfl,rfl,SqL.of (b2 _ _ bc b6),hn,?_⟩
   walk_at "r"
   refine ⟨L,b,_,rfl,b4.B,⟨n0,()⟩,λce eb dT dz du dp=>?_⟩
   have a1:=b4.take du dp
   walk_at "r"
   have da:ln.toNat<c.lds.length:=by rw [S.O.ldl];right
   obtain ⟨⟨a,ns⟩,I⟩:∃z,c.lds[ln.toNat]? = some z:=⟨_,ae da⟩
   refine ⟨sd,.ref c.ll,rfl,by rw [<- gP c.p c.q c.sg c.gl c.ll];exact qQ.k (k:=.inr "leaps") a1.S.sd,?_⟩
   walk_at "r"
   refine ⟨_,_,_,_,rfl,rfl,SqL.of a1.S.ll,xg ct (v:=V.ref a) (by rw [aH,I];rfl),?_⟩
   walk_at "r"
   refine ⟨L,b,rfl,a1.B,λy ea y0 y1 dt dn=>?_⟩
   have b3:=a1.take dt dn
   have a7:=D _ (aC I)
   refine ⟨a,_,rfl,wt.k (k:=.inl y) (b3.r2 _ (aC I)) (by rw [ag];exact jj (by have:ns.length<=i:=a7;right)),?_⟩
   have a7:ns.length<=i:=a7
   refine ⟨_,_,{ c with lds:=c.lds.set ln.toNat (a,xR ns y (1+ce)) },rfl,b3.leap I y0 y1 () () (),λx u=>?_⟩
   rcases uI S.O.nd I u with z | ⟨z,_⟩
   ·subst z
    exact aN (uq _ _ _) ()
   ·exact Nat.le_succ_of_le (D x z)
  ·rintro σ H2 ⟨x,y',c,rfl,S,D⟩
   walk_at "r"
   exact k sd H2 c S.B S.X S.S S.O
theorem IceNew.made {p dx:Addr}{H:Hp}(j:H p=none) (G:H dx=none) (I:IceNew C Pt (upd (upd H dx o) p o') H' p g):IceNew C Pt H H' p g:=by
 have s:jo H (upd (upd H dx o) p o'):=λc u h=>by rw [j8 (j4 h j),j8 (j4 h G)];exact h
 exact ⟨I.at_,λc u h n m=>I.keep c u (s c u h) n m,s.free I.va,s.free I.cy,s.free I.sl,s.free I.ye,s.free I.le,λa z=>s.free (I.zs a z),I.kvs,λx b=>⟨s.free (I.lds x b).1,(I.lds x b).2⟩,I.ll,I.nd,I.ny,I.sl2⟩
structure IceFr (H:Hp) (p:Addr) (g:IceG):Prop where
 p:H p=none
 va:H g.va=none
 cy:H g.cy=none
 sl:H g.sl=none
 ye:H g.ye=none
 le:H g.le=none
 zs:∀a,V.ref a∈g.zs->H a=none
 lds:∀x∈g.lds,H x.1=none
theorem IceAt.stay {p:Addr}{j:Hp}(I:IceAt C H2 p g) (F:IceFr H p g) (f:∀a o,H2 a=some o->H a=none->j a=some o) (t:jn H2 j):IceAt C j p g :=
 ⟨f _ _ I.ob F.p,f _ _ I.va F.va,I.rs.keep t,f _ _ I.cy F.cy,I.rows.imp λ_ _ q=>t _ _ q,f _ _ I.sl F.sl,pmM I.slopes λv d w ⟨a,c,q⟩=>⟨a,c,f _ _ q (F.zs a (c ▸ d))⟩,f _ _ I.ye F.ye,f _ _ I.le F.le,λx b=>f _ _ (I.lds x b) (F.lds x b)⟩
theorem Fr3.ext {N:Addr->Prop}{a:Addr}(f:Fr3 N M H H2) (e:Ext a H2 H3) (j:H a=none):Fr3 N M H H3:=λc o h n=>by
 have b:c≠a:=j4 h j
 rcases f c o h n with q | ⟨m,d,kvs,g,q⟩
 ·exact .inl (e _ _ q b)
 ·exact .inr ⟨m,d,kvs,g,e _ _ q b⟩
theorem Fr3.same {N:Addr->Prop}(f:Fr3 N M H H2) (e:jo H2 H3):Fr3 N M H H3:=λc o h n=>by
 rcases f c o h n with q | ⟨m,a,kvs,b,q⟩
 ·exact .inl (e _ _ q)
 ·exact .inr ⟨m,a,kvs,b,e _ _ q⟩
theorem Fr3.frz {N:Addr->Prop}{a:Addr}{j:Obj}{kvs:List (Key×V)}(f:Fr3 N M H H2) (h:H2 a=some (.dK kvs)) (m:M a):Fr3 N M H (upd H2 a (.frz j (.dK kvs))):=λc o b n=>by
 by_cases e:c=a
 ·subst e
  rcases f c o b n with q | ⟨_,g,d,i,q⟩
  ·rw [h] at q
   cases q
   exact .inr ⟨m,j,kvs,rfl,j9⟩
  ·rw [h] at q
   cases q
 ·rw [j8 e]
  exact f c o b n
theorem YK {H:Hp}(h:H a=some (.dK kvs)):jn H (upd H a (.frz j (.dK kvs))):=λc xs q=>by rw [j8 (jm q h ↥3)];exact q
theorem UZ (T:qJ H Pt) (h:H a=some (.dK kvs)):qJ (upd H a (.frz j (.dK kvs))) Pt:=by
 rcases T with q | ⟨c,q,b⟩
 ·exact .inl (by rw [j8 (jm q h ↥3)];exact q)
 ·exact .inr ⟨c,by rw [j8 (jm q h ↥3)];exact q,by rw [j8 (jm b h ↥3)];exact b⟩
theorem Xz (T:qJ H Pt) (h:H a=some (.dK kvs)) (e:Ext a H H'):qJ H' Pt:=by
 rcases T with q | ⟨c,q,b⟩
 ·exact .inl (e _ _ q (jm q h ↥3))
 ·exact .inr ⟨c,e _ _ q (jm q h ↥3),e _ _ b (jm b h ↥3)⟩
theorem WV {ns:List (Int×Addr)}{i:Nat}(h:(ns.map kvA)[i]? = some q):∃z,ns[i]? = some z/\q=kvA z:=by
 rw [aH] at h
 cases e:ns[i]? with
 | none=>rw [e] at h;cases h
 | some z=>rw [e] at h;cases h;exact ⟨z,rfl,rfl⟩
theorem Jl:∀{ns:List (Int×Addr)},(↥85).Nodup->∀{z:Int×Addr},z∈ns->qE (ns.map kvA) (.inl z.1)=some (.ref z.2)
 | [],_,z,h=>by cases h
 | q::r,a,z,h=>by
  rw [aQ] at a
  obtain ⟨h1,h2⟩:=List.nodup_cons.mp a
  rw [aQ]
  rcases List.mem_cons.mp h with e | e
  ·subst e
   exact xF
  ·have ne:¬q.1=z.1:=λw=>h1 (by rw [w];exact bV e)
   show qE ((.inl q.1,.ref q.2)::r.map kvA) (.inl z.1)=_
   rw [jx (λw=>ne (eX w))]
   exact Jl h2 e
theorem Vr {α:Type}{l:List (Int×α)}{y:Int}{a:α}(h:y∉l.map (·.1)):xR l y a=l++[(y,a)]:=by
 unfold xR
 rw [if_neg]
 intro z
 obtain ⟨u,b,e⟩:=List.any_eq_true.mp z
 exact h (of_decide_eq_true e ▸ bV b)
theorem Zf {α:Type}{l:List (Int×α)}(G:(l.map (·.1)).Nodup) {i:Nat}{z:Int×α}(h:l[i]? = some z):z.1∉(l.take i).map (·.1):=λm=>by
 obtain ⟨hi,e⟩:=List.getElem?_eq_some_iff.mp h
 obtain ⟨u,b,d⟩:=List.mem_map.mp m
 obtain ⟨j,c,a⟩:=List.mem_iff_getElem.mp b
 rw [aY] at c
 rw [iF] at a
 have h1:(l.map (·.1))[j]'(by rw [ag];right)=(l.map (·.1))[i]'(by rw [ag];exact hi):=by rw [dR,dR,a,e,d]
 exact absurd h1 (List.pairwise_iff_getElem.mp G j i _ _ ())
theorem QY {α:Type}{f:α->V}{l:List (Int×α)}(j:(l.map (·.1)).Nodup) {i:Nat}{z:Int×α}(h:l[i]? = some z):qK ((l.take i).map λz=>↥57) (.inl z.1) (f z.2)=(l.take (i+1)).map λz=>↥57:=by
 rw [gg f,Vr (Zf j h),bJ,h]
 rfl
structure LdN (g0:List ↥50) (cl:List ↥112) (i n:Nat) (lds:List ↥50):Prop where
 fst:lds.map (·.1)=g0.map (·.1)
 at_:∀j x,lds[j]? = some x->∃y,cl[j]? = some y/\x.2=(if j<i then y.2 else if j=i then y.2.take n else []).map kvI
theorem LdN.len {j:List ↥50}{I:List ↥112}{i n:Nat}(h:LdN G I i n j):j.length=G.length:=by
 have:=congrArg oI h.fst
 rwa [ag,ag] at this
theorem LdN.next {lds:List ↥50}{G:List ↥112}{i n:Nat}(h:LdN Y G i n lds) (I:G[i]? = some y) (U:y.2.length<=n):LdN Y G (i+1) 0 lds:=⟨h.fst,λj x d=>by
 obtain ⟨u,c,e⟩:=h.at_ j x d
 refine ⟨u,c,?_⟩
 rw [e]
 by_cases a:j<i
 ·rw [if_pos a,if_pos ()]
 ·rw [if_neg a]
  by_cases b:j=i
  ·subst b
   rw [I] at c
   cases c
   rw [if_pos rfl,if_pos (),fk U]
  ·rw [if_neg b,if_neg ()]
   split
   ·rfl
   ·rfl⟩
theorem LdN.put {G:List ↥50}{U:List ↥112}{i n:Nat}{a:Addr}{kvs:List (Key×V)}(h:LdN g0 U i n G) (Y:U[i]? = some y) (nd:(y.2.map (·.1)).Nodup) (hz:y.2[n]? = some z) (I:G[i]? = some (a,kvs)):LdN g0 U i (n+1) (yX G i (qK kvs (.inl z.1) (.int z.2))):=by
 obtain ⟨u,g,e⟩:=h.at_ i _ I
 rw [Y] at g
 cases g
 rw [if_neg (cX i),if_pos rfl] at e
 have k:qK kvs (.inl z.1) (.int z.2)=(y.2.take (n+1)).map kvI:=by
  rw [show kvs=(y.2.take n).map kvI from e]
  exact QY (f:=V.int) nd hz
 refine ⟨?_,λj x d=>?_⟩
 ·rw [<- h.fst]
  unfold yX
  rw [ao,I]
  exact ZS I
 ·unfold yX at d
  rw [iL] at d
  by_cases b:i=j
  ·subst b
   rw [if_pos rfl,if_pos (List.getElem?_eq_some_iff.mp I).1] at d
   cases d
   exact ⟨y,Y,by rw [if_neg (cX i),if_pos rfl];exact k⟩
  ·rw [if_neg b] at d
   obtain ⟨u,g,e⟩:=h.at_ j x d
   refine ⟨u,g,?_⟩
   rw [e]
   by_cases c:j<i
   ·rw [if_pos c,if_pos c]
   ·rw [if_neg c,if_neg c,if_neg (λq=>b q.symm),if_neg (λq=>b q.symm)]
theorem ScAt.fr {Pt sd:Addr}{H H':Hp}{c:ScN}(S:ScAt H sd c) (T:qJ H Pt) (f:Fr3 (λa=>a=Pt) c.D H H'):ScAt H' sd c:=by
 obtain ⟨ps,g⟩:=T.ne
 have n:∀{a:Addr} {o:HO},H a=some o->(∀ps,o≠.tbl ps)->¬a=Pt:=λh q=>jm h g (q _)
 have b:∀{a:Addr} {kvs:List (Key×V)},Rd H a (.dK kvs)->¬a=Pt:=λh=>by
  rcases h with h | ⟨o,h⟩
  ·exact n h ↥4
  ·exact n h ↥4
 exact S.keep f (λa xs h=>n h ↥4) (n S.sd ↥4) S.nD (n S.p ↥4) (n S.q ↥4) (n S.gl ↥4) (n S.ll ↥4) (λa h=>by
  obtain ⟨w,i,e,q⟩:=pm S.gi _ h
  cases e
  exact n q ↥4) (b S.sg) λx d=>b (S.ld x d)
theorem ScAt.inD {sd a:Addr}(S:ScAt H sd c) (h:c.D a):∃o,H a=some o:=by
 have r:∃kvs,Rd H a (.dK kvs):=by
  rcases h with h | ⟨x,b,e⟩
  ·exact ⟨_,h ▸ S.sg⟩
  ·exact ⟨_,e ▸ S.ld x b⟩
 obtain ⟨_,r | ⟨o,r⟩⟩:=r
 ·exact ⟨_,r⟩
 ·exact ⟨_,r⟩
theorem VW (f:Fz a kvs o H H4):jn H H4:=λc xs q=>by
 rcases f.2 with rfl | ⟨h,rfl⟩
 ·exact q
 ·exact YK h c xs q
theorem GJ (f:Fz a kvs o H2 H4) (r:Fr3 N M H H2) (m:M a):Fr3 N M H H4:=by
 rcases f.2 with rfl | ⟨h,rfl⟩
 ·exact r
 ·exact r.frz h m
theorem WE (f:Fz a kvs o H j) (T:qJ H Pt):qJ j Pt:=by
 rcases f.2 with rfl | ⟨h,rfl⟩
 ·exact T
 ·exact UZ T h
structure MdI (C Pt p:Addr) (c:ScN) (H H2:Hp) (g:IceG):Prop where
 I:IceAt C H2 p g
 F:IceFr H p g
 R:Fr3 (λa=>a=Pt) c.D H H2
 T:qJ H2 Pt
theorem MdI.frz {p j a:Addr}{kvs:List (Key×V)}(M:MdI C Pt p c H H2 g) (S:ScAt H j c) (h:c.D a) (f:Fz a kvs o H2 G):MdI C Pt p c H G g:=by
 obtain ⟨_,e⟩:=S.inD h
 exact ⟨M.I.stay M.F (λb u d n=>f.at d (j4 e n).symm) (VW f),M.F,GJ f M.R h,WE f M.T⟩
theorem MdI.same {p:Addr}(M:MdI C Pt p c H H2 g) (s:jo H2 j):MdI C Pt p c H j g:=⟨M.I.same s,M.F,M.R.same s,M.T.same s⟩
theorem LdN.mem {G j:List ↥50}{U:List ↥112}{i n:Nat}(h:LdN G U i n j) {x:Addr×List (Key×V)}(I:x∈j):∃y∈G,y.1=x.1:=by
 have:x.1∈G.map (·.1):=h.fst ▸ bV I
 obtain ⟨y,a,e⟩:=List.mem_map.mp this
 exact ⟨y,a,e⟩
inductive spMade (C Pt:Addr) (vs:List V) (H:Hp) (Q:VK) (z_3:XK):Prop
 | mk (sd b:Addr) (c:ScN) (_:vs=[.ref sd]) (_:ScAt H sd c) (_:ScOk b c) (_:qJ H Pt) (_:∀p H' g,IceAt C H' p g->IceFr H p g->Fr3 (λa=>a=Pt) c.D H H'->qJ H' Pt->g.rs=c.rs->g.rows=c.ts->g.slopes=c.ws.map (jc c.rs)->g.kvs=c.sk.map kvA->g.lds.length=c.lds.length->(∀(l:Nat) x,g.lds[l]? = some x->∃y,c.lds[l]? = some y/\x.2=y.2.map kvI)->(∀x∈g.lds,x.1≠g.ye)->(g.lds.map (·.1)).Nodup->Q (.ref p) H')
theorem xy:FnScope ["_law_scene_here","_law_ice","_law_year_here","_law_lane","_law_leaps"] ["_law_scene_here"] (ja uh):=by walk_at "s"
theorem UD {CR:Addr}(nb:Nb2 mg) (ac:Cls K C) (aL:MakX P w K mg base 8 C "Ice" ["self","reaches","rows"] (spInit C CV CR Pt)) (Y:CalMX P w K mg base 2 C "tell" ["self","year","row"] (spTell C CY CW)) (U:CalMX P w K mg base 2 C "surge" ["self","lane","year","many"] (spSurge C CN CY CS)) (F:Fun K "_law_made" "_law_made" uh f fd):FnOk P w K mg base CX0 10 f fd ["_law_scene_here"] (spMade C Pt):=by
 refine F.ok xy ↥33 (λbs A outer s H vs Q E J h=>?_)
 ·obtain ⟨N,b,c,rfl,_⟩:=h
  rfl
 ·obtain ⟨N,b,c,rfl,S,O,T,k⟩:=h
  refine ⟨_,(j6 (js 1 xy.nd (Wc aL (J.mono ⋯) kX rfl (j0 (qN (qH K) rfl nb.b_list ck (j0 ↥100 j5)) (j0 (qN (qH K) rfl nb.b_list ck (j0 ↥100 j5)) j5))))
   (j6 (qA bh rfl (Q9 ↥100) (jd (i:=2) xy.nd rfl (aR rfl)) (jb (qa (yS (pv 1) ac Y (J.mono ⋯) kX (j0 (pv 2) (j0 (jW (qk J) ↥100 (pv 2) (λ_ _=>rfl)) j5))))))
   (j6 (qA bh rfl (Y8 K rfl nb.b_enumerate (j0 ↥100 j5)) (qj (n:=2) K rfl (jh (jd (i:=3) xy.nd rfl (aR rfl)) (jh (jd (i:=4) xy.nd rfl (aR rfl)) qi))) (jb (qA bh rfl (Q9 (pv 4)) (jd (i:=2) xy.nd rfl (aR rfl)) (jb (qa (yS (pv 1) ac U (J.mono ⋯) kX (j0 (pv 3) (j0 (pv 2) (j0 (jW (qk J) (pv 4) (pv 2) (λ_ _=>rfl)) j5)))))))))
   (jb (jk (pv 1)))))),?_⟩
  walk_at "r"
  refine ⟨N,.ref c.p,rfl,by rw [<- Zh c.p c.q c.sg c.gl c.ll];exact qQ.k (k:=.inr "reaches") S.sd,?_⟩
  refine ⟨_,_,rfl,.inl (SqL.of S.p),λl1 H1 bm az s1=>?_⟩
  have S1:=S.same s1
  walk_at "r"
  refine ⟨N,.ref c.q,rfl,by rw [<- Qn c.p c.q c.sg c.gl c.ll];exact qQ.k (k:=.inr "rows") S1.sd,?_⟩
  refine ⟨_,_,rfl,.inl (SqL.of S1.q),λl2 H2 bl as s2=>?_⟩
  have S2:=S1.same s2
  have G:=s1.trans s2
  walk_at "r"
  intro p dx hp hd bq
  have s3:jo H2 (upd (upd H2 dx (.own p)) p (.ins C dx [])):=λc u h=>by rw [j8 (j4 h hp),j8 (j4 h hd)];exact h
  have S3:=S2.same s3
  have bk:gr c.ts=true:=by
   have:=O.t1
   have:=O.t2
   unfold gr
   rw [decide_eq_true (),O.tg]
   rfl
  have eg:=O.gr.good O.l1 O.l8
  refine ⟨p,dx,l1,l2,c.xs,c.ys,c.rs,c.ts,rfl,j9,s3 _ _ (s2 _ _ az),S3.rv,s3 _ _ as,S3.r3,λr J=>aN (ZV O.gr r J) ⋯,aN O.l8 ⋯,aN O.t2 ⋯,(T.same G).same s3,λH4 g _ _ I e1 e2 e3 e4 T4=>?_,(λH' z _ _=>by rw [eg] at z;cases z),(λH' _ z _ _=>by rw [bk] at z;cases z)⟩
  have I:=I.made hp hd
  obtain ⟨ws,hR,al⟩:=I.sl2
  rw [e1] at hR al
  obtain rfl:=hR.unique O.ro
  have d:IceFr H p g:=⟨G.free hp,G.free I.va,G.free I.cy,G.free I.sl,G.free I.ye,G.free I.le,λa z=>G.free (I.zs a z),λx B=>G.free (I.lds x B).1⟩
  have M4:MdI C Pt p c H H4 g:=⟨I.at_,d,λa o h n=>.inl (I.keep a o (G _ _ h) (j4 h d.p) n),T4⟩
  have a1:g.lds.length=c.lds.length:=by rw [I.ll,al,ag,O.ldl]
  have a0:=I.nd
  have am:=I.ny
  have a7:=I.kvs
  have a6:∀x∈g.lds,x.2=[]:=λx B=>(I.lds x B).2
  clear I S3 s3 S2 as az S1 T4
  refine ⟨rfl,?_⟩
  have S4:=S.fr T M4.R
  walk_at "r"
  refine ⟨N,.ref c.sg,rfl,by rw [<- yg c.p c.q c.sg c.gl c.ll];exact qQ.k (k:=.inr "single") S4.sd,?_⟩
  have ap:c.D c.sg:=.inl rfl
  refine Jx (kvs:=c.sk.map kvA) S4.sg (λo i σ H5=>∃x:Option V,σ=[some (.ref N),some (.ref p),x,none,none]/\H5 c.sg=some (.frz o (.dK (c.sk.map kvA)))/\MdI C Pt p c H H5 { g with kvs:=(c.sk.take i).map kvA }) ?_ ?_ ?_ ?_
  ·intro o H5 f5
   refine ⟨none,rfl,f5.1,?_⟩
   have:=M4.frz S ap f5
   have e:g={ g with kvs:=(c.sk.take 0).map kvA }:=by
    show g={ g with kvs:=[] }
    rw [<- a7]
   rw [<- e]
   exact this
  ·rintro o i σ H5 hi ⟨x,rfl,h5,L⟩
   exact h5
  ·rintro o i u σ H5 hq ⟨x,rfl,h5,L⟩
   obtain ⟨z,hz,rfl⟩:=WV hq
   have X:=aC hz
   have hi:i<c.sk.length:=(List.getElem?_eq_some_iff.mp hz).1
   have bi:=O.k3
   have S5:=S.fr T L.R
   obtain ⟨r,ba,bd⟩:=S5.sk z X
   obtain ⟨y0,y1⟩:=O.k2 z X
   show wP 2 (V.int z.1) _ _ _
   walk_at "r"
   refine ⟨p,g.dx,_,rfl,L.I.ob,qY ∅,?_⟩
   walk_at "r"
   refine ⟨N,.ref c.sg,rfl,by rw [<- yg c.p c.q c.sg c.gl c.ll];exact qQ.k (k:=.inr "single") S5.sd,?_⟩
   walk_at "r"
   refine ⟨c.sg,.ref z.2,rfl,(by rw [<- Jl O.k1 X];exact .inl ⟨_,.inl z.1,.inr ⟨o,h5⟩,rfl,rfl⟩),?_⟩
   refine ⟨p,z.2,_,z.1,r,rfl,L.I,am,ba,(by rw [ag,aY];right),λH6 _ _ _ X6 I6=>?_,λM=>absurd M (),λ_ _ M=>by rw [bd] at M;cases M⟩
   have e:qK ((c.sk.take i).map kvA) (.inl z.1) (.ref z.2)=(c.sk.take (i+1)).map kvA:=QY (f:=V.ref) O.k1 hz
   obtain ⟨_,a5⟩:=S.inD ap
   refine ⟨_,rfl,X6 _ _ h5 (j4 a5 d.ye),?_⟩
   rw [<- e]
   exact ⟨I6,⟨d.p,d.va,d.cy,d.sl,d.ye,d.le,d.zs,d.lds⟩,L.R.ext X6 d.ye,Xz L.T L.I.ye X6⟩
  ·rintro o σ H5 ⟨x,rfl,h5,L⟩
   rw [ag,bg] at L
   have S5:=S.fr T L.R
   walk_at "r"
   refine ⟨N,.ref c.ll,rfl,by rw [<- gP c.p c.q c.sg c.gl c.ll];exact qQ.k (k:=.inr "leaps") S5.sd,?_⟩
   walk_at "r"
   refine ⟨⟨_,SqL.of S5.ll⟩,?_⟩
   refine VU (K:=K) (a:=c.ll) (xs:=c.lds.map λx=>V.ref x.1) (λi σ H6=>∃(x y z:Option V) (lds:List ↥50),σ=[some (.ref N),some (.ref p),x,y,z]/\MdI C Pt p c H H6 { g with kvs:=c.sk.map kvA,lds:=lds }/\LdN g.lds c.lds i 0 lds) ?_ ?_ ?_ ?_
   ·refine ⟨x,none,none,g.lds,rfl,L,rfl,λj x B=>?_⟩
    have hj:=(List.getElem?_eq_some_iff.mp B).1
    obtain ⟨y,m⟩:∃y,c.lds[j]? = some y:=⟨_,ae ()⟩
    refine ⟨y,m,?_⟩
    rw [a6 x (aC B),if_neg (eC _)]
    split <;> rfl
   ·rintro i σ H6 hi ⟨x,y,z,lds,rfl,M6,L6⟩
    exact SqL.of (S.fr T M6.R).ll
   ·rintro i v σ H6 t hv ⟨x,y,z,lds,rfl,M6,L6⟩ ht
    rw [aH] at hv
    obtain ⟨⟨a,ns⟩,m,ev⟩:=Option.map_eq_some_iff.mp hv
    subst ev
    have M7:=M6.same (jo.new (o:=.tup [.int i,.ref a]) ht)
    walk_at "r"
    refine ⟨t,_,rfl,SqT.of j9,rfl,?_⟩
    refine ⟨_,_,rfl,_,_,rfl,rfl,?_⟩
    walk_at "r"
    clear M6
    generalize upd H6 t (.tup [.int i,.ref a])=H7 at *
    have S7:=S.fr T M7.R
    have X:=aC m
    have a2:c.D a:=.inr ⟨_,X,rfl⟩
    obtain ⟨_,be⟩:=S.inD a2
    refine Jx (kvs:=ns.map kvI) (S7.ld _ X) (λo n σ H8=>∃(x:Option V) (lds:List ↥50),σ=[some (.ref N),some (.ref p),x,some (.int i),some (.ref a)]/\H8 a=some (.frz o (.dK (ns.map kvI)))/\MdI C Pt p c H H8 { g with kvs:=c.sk.map kvA,lds:=lds }/\LdN g.lds c.lds i n lds) ?_ ?_ ?_ ?_
    ·intro o H8 f8
     exact ⟨x,lds,rfl,f8.1,M7.frz S a2 f8,L6⟩
    ·rintro o n σ H8 hn ⟨x,lds,rfl,h8,Z,L8⟩
     exact h8
    ·clear L6 M7 S7
     rintro o n u σ H8 hq ⟨x,lds,rfl,h8,Z,L8⟩
     obtain ⟨z,hz,rfl⟩:=VN hq
     have an:=aC hz
     obtain ⟨y0,y1,m0,m1⟩:=O.m2 _ X z an
     have bc:=L8.len
     have bn:i<lds.length:=by
      have:=(List.getElem?_eq_some_iff.mp m).1
      right
     have a8:g.slopes.length=lds.length:=by rw [al,ag,bc,a1,O.ldl]
     show wP 2 (V.int z.1) _ _ _
     walk_at "r"
     refine ⟨p,g.dx,_,rfl,Z.I.ob,qY ∅,?_⟩
     walk_at "r"
     refine ⟨a,.int z.2,rfl,(by rw [<- wF (O.m1 _ X) an,<- vA ns z.1 (bV an)];exact .inl ⟨_,.inl z.1,.inr ⟨o,h8⟩,rfl,rfl⟩),?_⟩
     refine ⟨p,_,(i:Int),z.1,z.2,rfl,Z.I,a8.symm,(λx B=>by obtain ⟨y,m,e⟩:=L8.mem B;rw [<- e];exact am y m),(by show (lds.map (·.1)).Nodup;rw [L8.fst];exact a0),(λx B=>?_),λH9 a9 a4 _ _ _ _ _ _ ab X9 I9=>?_,(λM=>absurd M (by show ¬((i:Int)<0\/ ↥16<=i);right)),(λ_ _ M=>absurd M ()),λ_ _ _ _ M=>absurd M ()⟩
     ·obtain ⟨j,hj,ex⟩:=List.mem_iff_getElem.mp B
      obtain ⟨y,m,e⟩:=L8.at_ j x (by rw [ae hj,ex])
      have bi:=O.m3 y (aC m)
      rw [e,ag]
      split
      ·right
      ·split
       ·rw [aY];right
       ·exact aB _
     ·have ab:lds[i]? = some (a9,a4):=ab
      have L9:=L8.put m (O.m1 _ X) hz ab
      have a3:H a9=none:=Z.F.lds _ (aC ab)
      refine ⟨_,_,rfl,X9 _ _ h8 (j4 be a3),⟨I9,⟨d.p,d.va,d.cy,d.sl,d.ye,d.le,d.zs,λx B=>?_⟩,Z.R.ext X9 a3,Xz Z.T (Z.I.lds _ (aC ab)) X9⟩,L9⟩
      obtain ⟨y,m,e⟩:=L9.mem B
      rw [<- e]
      exact d.lds y m
    ·rintro o σ H8 ⟨x,lds,rfl,h8,Z,L8⟩
     exact ⟨x,_,_,lds,rfl,Z,L8.next m (by rw [ag];exact ak _)⟩
   ·rintro σ H6 ⟨x,y,z,lds,rfl,M6,L6⟩
    walk_at "r"
    refine k p H6 _ M6.I M6.F M6.R M6.T e1 e2 al rfl (L6.len.trans a1) (λl x B=>?_) (λx B=>?_) (by show (lds.map (·.1)).Nodup;rw [L6.fst];exact a0)
    ·obtain ⟨y,m,e⟩:=L6.at_ l x B
     refine ⟨y,m,?_⟩
     rw [e,if_pos (by rw [ag];exact (List.getElem?_eq_some_iff.mp m).1)]
    ·obtain ⟨y,m,e⟩:=L6.mem B
     rw [<- e]
     exact am y m
theorem wL (h:zR rs=true):1<=rs.length/\rs.length<=8/\wf rs=true/\∀ws,qg rs ws->∀w∈ws,(jc rs w).length<=30:=by
 unfold zR at h
 rw [bt,bt,bt] at h
 obtain ⟨h1,h2,_,d⟩:=h
 have h1:=of_decide_eq_true h1
 refine ⟨(),(),h2,λws c w b=>?_⟩
 obtain ⟨x,a,e⟩:=c.mem b
 have:=of_decide_eq_true (List.all_eq_true.mp d x a)
 have g:=gx rs w
 rw [<- e] at this
 right
theorem gK (G:Grown rs) {ws:List (List Int)}(R:qg rs ws) {w:List Int}(j:w∈ws):1<=(jc rs w).length:=by
 obtain ⟨x,b,e⟩:=R.mem j
 have a:=xD b
 have o:=Qx G.ok (ae a)
 unfold okR at o
 rw [bt,bt] at o
 have o:=of_decide_eq_true o.1.2
 have c:y3 rs ((x:Int)).toNat=(rs[x]'a).2:=by
  unfold y3
  rw [cP,ao,ae a]
  rfl
 rw [e,zS (qm G.ok) a]
 unfold jc
 rw [aQ,mB,ar,c]
 right
theorem Uo (B:jK L j b) (e:Ext b j G) (T:qJ j Pt):qJ G Pt:=by
 obtain ⟨ns,a,r,c,d,h1,_⟩:=B
 exact T.ext h1 e
structure Lw (C L b sd p:Addr) (c:ScN) (g:IceG) (H0 H:Hp):Prop where
 B:jK L H b
 S:ScAt H sd c
 I:IceAt C H p g
 O:ScOk b c
 F:IceFr H0 p g
 B0:jK L H0 b
 S0:ScAt H0 sd c
theorem Lw.same {b j p:Addr}(W:Lw C L b j p c g H0 H) (s:jo H H'):Lw C L b j p c g H0 H':=⟨W.B.same s,W.S.same s,W.I.same s,W.O,W.F,W.B0,W.S0⟩
theorem Lw.take {b j p:Addr}(W:Lw C L b j p c g H0 H) (B:jK L H' b) (X:Ext b H H'):Lw C L b j p c g H0 H' :=
 ⟨B,W.S.ext W.O W.B X,W.I.stay W.F (λa o h n=>X a o h (W.B0.ne n)) (vF W.B X),W.O,W.F,W.B0,W.S0⟩
theorem Lw.fr {b j p:Addr}(W:Lw C L b j p c g H0 H) (f:FrM c.D H H'):Lw C L b j p c g H0 H':=by
 refine ⟨?_,?_,W.I.stay W.F (λa o h n=>?_) (λa xs h=>f.at h ↥4),W.O,W.F,W.B0,W.S0⟩
 ·obtain ⟨ns,a,r,c,d,h1,h2,i,e⟩:=W.B
  exact ⟨ns,a,r,c,d,f.at h1 ↥4,h2,f.at i ↥4,e⟩
 ·exact W.S.keep (N:=λ_=>False) (λc o h _=>f c o h) (λ_ _ _ z=>z) id W.S.nD id id id id (λ_ _=>id) id (λ_ _=>id)
 ·rcases f a o h with z | ⟨m,_⟩
  ·exact z
  ·obtain ⟨_,q⟩:=W.S0.inD m
   rw [n] at q
   cases q
theorem Lw.start {C L b G p Pt:Addr}{c:ScN}{g:IceG}{H2 H3:Hp}(Y:ScAt H2 G c) (O:ScOk b c) (B2:jK L H2 b) (U:qJ H2 Pt) (I3:IceAt C H3 p g) (F3:IceFr H2 p g) (j:Fr3 (λa=>a=Pt) c.D H2 H3):Lw C L b G p c g H2 H3:=by
 refine ⟨?_,Y.fr U j,I3,O,F3,B2,Y⟩
 obtain ⟨ps,e⟩:=U.ne
 obtain ⟨ns,a,r,c,d,h1,h2,f,h⟩:=B2
 exact ⟨ns,a,r,c,d,j.at h1 (jm h1 e ↥3) ↥4,h2,j.at f (jm f e ↥3) ↥4,h⟩
structure Lk (c:ScN) (g:IceG):Prop where
 rs:g.rs=c.rs
 rows:g.rows=c.ts
 sl:g.slopes=c.ws.map (jc c.rs)
 kv:g.kvs=c.sk.map kvA
 ll:g.lds.length=c.lds.length
 ld:∀(l:Nat) x,g.lds[l]? = some x->∃y,c.lds[l]? = some y/\x.2=y.2.map kvI
 ny:∀x∈g.lds,x.1≠g.ye
 nd:(g.lds.map (·.1)).Nodup
structure LaneF (c:ScN) (g:IceG) (ln:Int) (wy:List Int) (da:Addr) (dn:List (Int×Int)):Prop where
 way:c.ws[ln.toNat]? = some wy
 sl:g.slopes.getD ln.toNat []=jc c.rs wy
 g1:1<=(jc c.rs wy).length
 g30:(jc c.rs wy).length<=30
 cd:c.lds[ln.toNat]? = some (da,dn)
 D:c.D da
 nd:(dn.map (·.1)).Nodup
 b:∀q∈dn,0<=q.1/\q.1<=99/\1<=q.2/\q.2<=9
 l10:dn.length<=10
 at_:Ui g ln dn
 l0:0<=ln
 l1:ln< ↥16
theorem Lk.lane {b:Addr}(k:Lk c g) (O:ScOk b c) {j:Int}(I:0<=j) (h1:j<(c.ws.length:Int)):∃U G dn,LaneF c g j U G dn:=by
 have hi:j.toNat<c.ws.length:=()
 have f:=ae hi
 have l:g.slopes[j.toNat]? = some (jc c.rs (c.ws[j.toNat]'hi)):=by rw [k.sl,aH,f];rfl
 have s:g.slopes.length=c.ws.length:=by rw [k.sl,ag]
 obtain ⟨⟨G,dn⟩,e⟩:∃z,c.lds[j.toNat]? = some z:=⟨_,ae (by rw [O.ldl];right)⟩
 have a:=aC e
 obtain ⟨⟨n,r⟩,d⟩:∃z,g.lds[j.toNat]? = some z:=⟨_,ae (by rw [k.ll,O.ldl];right)⟩
 obtain ⟨_,h,o⟩:=k.ld _ _ d
 rw [e] at h
 cases h
 obtain rfl:r=dn.map kvI:=o
 have i:=cJ hi
 have m:dn.length<=10:=O.m3 _ a
 exact ⟨_,G,dn,f,by rw [ao,l];rfl,gK O.gr O.ro i,(wL (O.gr.good O.l1 O.l8)).2.2.2 c.ws O.ro _ i,e,.inr ⟨_,a,rfl⟩,O.m1 _ a,O.m2 _ a,m,⟨I,(),⟨n,d⟩,O.m1 _ a,(),λq p=>by have:=O.m2 _ a q p;right⟩,I,()⟩
theorem LaneF.pos {G:Int}{j:List (Int×Int)}(L:LaneF c g G I U j):∀q∈j,0<=q.1/\0<=q.2:=λq a=>by have:=L.b q a;right
theorem gL {ns:List (Int×Int)}(h:∀q∈ns,0<=q.2) {y z:Int}(j:y<=z):jA ns y<=jA ns z:=by
 induction ns with
 | nil=>exact l9 _
 | cons q r c =>
  rw [qe,qe]
  have a:=h q (aM ..)
  have b:=c λz d=>h z (aK _ d)
  by_cases e:q.1<=y
  ·rw [if_pos e,if_pos ()];right
  ·rw [if_neg e]
   split <;> right
theorem yD {ns ms:List (Int×Int)}(p:ms.Perm ns) (s: (↥66).Pairwise (· <= ·)) (j: (↥85).Nodup) (h:∀q∈ns,0<=q.1/\0<=q.2) (one len y:Int) (G:0<=y):(0<=y+jA ns y-one/\y+jA ns y-one<len)↔(jz 0 0 ms one<=y/\y<jz 0 0 ms (one+len)):=by
 have i:∀q∈ms,0<=q.1/\0<=q.2:=λq g=>h q (p.mem_iff.mp g)
 have f: (↥66).Nodup:=(p.map (·.1)).nodup_iff.mpr j
 have st:=qR s f
 have key:∀e:Int,(e<=y+jA ns y↔jz 0 0 ms e<=y):=λe=>by
  have:=wA ms 0 0 e y i st G
  rw [xv p,Int.add_zero] at this
  exact this
 have a:=key one
 have b:=key (one+len)
 constructor
 ·rintro ⟨c,d⟩
  refine ⟨a.mp (),?_⟩
  have:=mt b.mpr ()
  right
 ·rintro ⟨c,d⟩
  have l:=a.mpr c
  have k:=mt b.mp ()
  right
theorem zc {ns ms:List (Int×Int)}(p:ms.Perm ns) (s: (↥66).Pairwise (· <= ·)) (h:∀q∈ns,0<=q.1/\0<=q.2) (goal:Int):0<=jz 0 0 ms goal:=gA ms 0 0 goal (λq a=>(h q (p.mem_iff.mp a)).1) s
theorem ki {ns ms:List (Int×Int)}(p:ms.Perm ns) (s: (↥66).Pairwise (· <= ·)) (j: (↥85).Nodup) (h:∀q∈ns,0<=q.1/\0<=q.2) (one len:Int) (G:jz 0 0 ms one<jz 0 0 ms (one+len)):jz 0 0 ms (one+len)-1-jz 0 0 ms one<len:=by
 have d:=zc p s h one
 have a:=(yD p s j h one len _ d).mpr ⟨l9 _,G⟩
 have b:=(yD p s j h one len (jz 0 0 ms (one+len)-1) ()).mpr ⟨(),()⟩
 have m:=gL (λq c=>(h q c).2) (y:=jz 0 0 ms one) (z:=jz 0 0 ms (one+len)-1) ()
 right
inductive spSpot  (vs:List V) (H:Hp) (Q:VK) (z_3:XK):Prop
 | mk (L b sd:Addr) (c:ScN) (_:vs=[.ref b,.ref sd]) (_:jK L H b) (_:ScAt H sd c) (_:ScOk b c) (_:1<=c.ws.length) (_:c.ws.length<=6) (_: ↥106) (_:∀(ln n:Int) (w:List Int) (t:Addr) (H':Hp),0<=ln->ln<(c.ws.length:Int)->c.ws[ln.toNat]? = some w->0<=n->n<((jc c.rs w).length:Int)->jK L H' b->Ext b H H'->H t=none->H' t=some (.tup [.int ln,.int n])->Q (.ref t) H')
theorem wJ:FnScope ["_law_box_here","_law_scene_here","_law_lane"] ["_law_box_here","_law_scene_here"] (ja uj):=by walk_at "s"
theorem Ul (nb:Nb2 mg) (j:Cal P w K mg base 2 "_law_take" ["_law_box_here","_law_size"] spTakeL) (F:Fun K "_law_spot" "_law_spot" uj f fd):FnOk P w K mg base CX0 3 f fd ["_law_box_here","_law_scene_here"] spSpot:=by
 refine F.ok wJ (λM H Q E h=>?_) (λam A outer s H M Q E a h=>?_)
 ·obtain ⟨L,b,i,c,rfl,_⟩:=h
  rfl
 ·obtain ⟨L,b,i,c,rfl,B,S,O,ac,ab,T,k⟩:=h
  have Z:c.zs.length=c.ws.length:=(aP S.gi).trans (ag _)
  refine ⟨_,(j6 (js 2 wJ.nd (je j (a.mono ⋯) rfl (j0 (pv 0) (j0 (jf (ji K) rfl nb.b_len b9 (j0 (jW (qk a) (pv 1) jC (λ_ _=>rfl)) j5)) j5))))
   (jb (jk (qx (j0 (pv 2) (j0 (je j (a.mono ⋯) rfl (j0 (pv 0) (j0 (jf (ji K) rfl nb.b_len b9 (j0 (jp (jg K) (jW (qk a) (pv 1) jC (λ_ _=>rfl)) (pv 2) (λ_ _=>rfl)) j5)) j5))) j5)))))),?_⟩
  walk_at "r"
  refine ⟨i,.ref c.gl,rfl,by rw [<- zG c.p c.q c.sg c.gl c.ll];exact qQ.k (k:=.inr "grounds") S.sd,?_⟩
  walk_at "r"
  refine ⟨c.gl,_,rfl,.inl (SqL.of S.gl),?_⟩
  walk_at "r"
  refine ⟨L,b,_,rfl,B,⟨(),()⟩,λx H1 d Y X l=>?_⟩
  have m:=S.ext O B l
  have hi:x.toNat<c.zs.length:=()
  obtain ⟨gw,g,D,G,C⟩:=Paired.get m.gi (ae hi)
  rw [aH] at g
  obtain ⟨o,e,rfl⟩:=Option.map_eq_some_iff.mp g
  have al:=T o (aC e)
  walk_at "r"
  refine ⟨i,.ref c.gl,rfl,by rw [<- zG c.p c.q c.sg c.gl c.ll];exact qQ.k (k:=.inr "grounds") m.sd,?_⟩
  walk_at "r"
  refine ⟨_,_,_,_,rfl,rfl,SqL.of m.gl,xg d (v:=V.ref D) (by rw [ae hi,G]),?_⟩
  walk_at "r"
  refine ⟨D,_,rfl,.inl (SqL.of C),?_⟩
  rw [ag]
  walk_at "r"
  refine ⟨L,b,_,rfl,X,⟨(),()⟩,λn H2 R N J I=>?_⟩
  walk_at "r"
  refine ⟨by show 2<=sizeLine;decide,λt U z y u=>?_⟩
  have tb:t≠b:=J.ne z
  exact k x n o t U d () e R N (J.same u) ((l.trans I).trans (Ext.of_same u)) (l.free (I.free z tb) tb) y
noncomputable def chg (t:T3) (h:Int):Int:=if t.1<=h then t.2.1 else-t.2.2
inductive spChange  (vs:List V) (H:Hp) (Q:VK) (z_3:XK):Prop
 | mk (p:Addr) (t:T3) (h:Int) (_:vs=[.ref p,.int h]) (_:H p=some (vJ t)) (_:Q (.int (chg t h)) H)
theorem vw:FnScope ["row","height","line","snow","sun"] ["row","height"] (ja gC):=by walk_at "s"
theorem YU (F:Fun K "change" "change" gC f fd):FnOk P w K mg base CX0 1 f fd ["row","height"] spChange:=by
 refine F.ok vw (λa H Q E h=>?_) (λc A outer s H a Q E d h=>?_)
 ·obtain ⟨p,t,h,rfl,_⟩:=h
  rfl
 ·obtain ⟨p,t,h,rfl,b,k⟩:=h
  unfold chg at k
  refine ⟨_,(j6 (xO (pv 0) (qj (n:=3) K rfl (jh (jd (i:=2) vw.nd rfl (aR rfl)) (jh (jd (i:=3) vw.nd rfl (aR rfl)) (jh (jd (i:=4) vw.nd rfl (aR rfl)) qi)))))
   (j6 (jN (jq QX (pv 1) (pv 2) (jw _)) (jb (jk (pv 3))) jv)
   (jb (jk (kZ vY (pv 4)))))),?_⟩
  walk_at "r"
  refine ⟨p,_,rfl,SqT.of b,rfl,?_⟩
  refine ⟨_,_,rfl,_,_,rfl,_,_,rfl,rfl,?_⟩
  walk_at "r"
  refine qp (λh1=>?_) (λh1=>?_)
  ·walk_at "r"
   rw [if_pos h1] at k
   exact k
  ·walk_at "r"
   rw [if_neg h1] at k
   exact k
inductive spWish  (vs:List V) (H:Hp) (Q:VK) (z_3:XK):Prop
 | mk (p:Addr) (t:T3) (h:Int) (_:vs=[.ref p,.int h]) (_:H p=some (vJ t)) (_:Q (.int (chg t h)) H)
theorem QB:FnScope ["_law_row_here","_law_height"] ["_law_row_here","_law_height"] (ja vT):=by walk_at "s"
theorem UE (F:Fun K "_law_wish" "_law_wish" vT f fd):FnOk P w K mg base CX0 1 f fd ["_law_row_here","_law_height"] spWish:=by
 refine F.ok QB (λb H Q E h=>?_) (λc A outer s H b Q E d h=>?_)
 ·obtain ⟨p,t,h,rfl,_⟩:=h
  rfl
 ·obtain ⟨p,t,h,rfl,a,k⟩:=h
  unfold chg at k
  have a:H p=some (.tup [.int t.1,.int t.2.1,.int t.2.2]):=a
  refine ⟨_,(j6 (jN (jq vK (pv 1) ↥99 (jw _)) (jb (jk (jr qO j7 ↥99))) jv)
   (jb (jk ↥99))),?_⟩
  walk_at "r"
  refine qp (λh1=>?_) (λh1=>?_)
  ·walk_at "r"
   rw [if_neg (),show-t.2.2=0-t.2.2 by right] at k
   exact k
  ·walk_at "r"
   rw [if_pos ()] at k
   exact k
noncomputable def yZ (H:Hp) (sk:List (Int×Addr)) (wr:List (Int×T3)):Prop:=cW (λ(z:Int×Addr) (q:Int×T3)=>z.1=q.1/\H z.2=some (vJ q.2)) sk wr
theorem yZ.keep {sk:List (Int×Addr)}(h:yZ H sk wr) (t:jn H H'):yZ H' sk wr:=Paired.mapP h λ_ _ ⟨e,q⟩=>⟨e,t _ _ q⟩
theorem yZ.of {H:Hp}:∀{sk:List (Int×Addr)},(∀z∈sk,∃t,H z.2=some (vJ t)/\good t=true)->∃wr,yZ H sk wr
 | [],_=>⟨[],.nil⟩
 | z::r,h=>by
  obtain ⟨t,c,_⟩:=h z (aM ..)
  obtain ⟨wr,a⟩:=yZ.of (sk:=r) λu b=>h u (aK _ b)
  exact ⟨(z.1,t)::wr,.cons ⟨rfl,c⟩ a⟩
noncomputable def Zx (wr:List (Int×T3)) (ts:List T3) (y:Int):T3 :=
 match wr.find? λq=>decide (q.1=y) with
 | some q=>q.2
 | none=>ts.getD (y % (ts.length:Int)).toNat (0,0,0)
theorem gu {H:Hp}:∀{sk:List (Int×Addr)}{wr:List (Int×T3)},yZ H sk wr->∀y:Int,
  (∃a q,qE (sk.map kvA) (.inl y)=some (.ref a)/\(wr.find? λq=>decide (q.1=y))=some q/\H a=some (vJ q.2))\/(qE (sk.map kvA) (.inl y)=none/\(wr.find? λq=>decide (q.1=y))=none)
 | _,_,.nil,y=>.inr ⟨rfl,rfl⟩
 | z::sk,q::wr,.cons ⟨e,h⟩ r,y=>by
  rw [aQ]
  by_cases c:z.1=y
  ·subst c
   exact .inl ⟨z.2,q,xF,by rw [nU (by rw [decide_eq_true e.symm])],h⟩
  ·have d:qE (kvA z::sk.map kvA) (.inl y)=qE (sk.map kvA) (.inl y):=jx λw=>c (eX w)
   have b:((q::wr).find? λq=>decide (q.1=y))=wr.find? λq=>decide (q.1=y):=nW (by rw [decide_eq_false (by rw [<- e];exact c)];exact aq)
   rw [d,b]
   exact gu r y
theorem VE (r:qP H ys ts) (h1:1<=ts.length) (y:Int):∃a,atI ys (y % (ys.length:Int))=some (.ref a)/\H a=some (vJ (ts.getD (y % (ts.length:Int)).toNat (0,0,0))):=by
 have e:ys.length=ts.length:=r.length
 have b:(0:Int)<ts.length:=()
 have c:=fC y (show (ts.length:Int)≠0 by right)
 have h:=dZ y b
 have hi:(y % (ts.length:Int)).toNat<ys.length:=()
 obtain ⟨t,d,a,g,f⟩:=r.get (ae hi)
 refine ⟨a,?_,?_⟩
 ·rw [e]
  exact xg c (by rw [ae hi,g])
 ·rw [ao,d]
  exact f
inductive spSky (C:Addr) (vs:List V) (H:Hp) (Q:VK) (z_3:XK):Prop
 | mk (p:Addr) (g:IceG) (y:Int) (sk:List (Int×Addr)) (wr:List (Int×T3)) (_:vs=[.ref p,.int y]) (_:IceAt C H p g) (_:g.kvs=sk.map kvA) (_:yZ H sk wr) (_:1<=g.rows.length) (_:g.rows.length<=1000) (_:∀t,H t=some (vJ (Zx wr g.rows y))->Q (.ref t) H)
theorem QO:FnScope ["self","year"] ["self","year"] (ja ub):=by walk_at "s"
theorem Xw (nb:Nb2 mg) (T:IceC K C) (F:Fun K "sky" "Ice.sky" ub f fd):FnOk P w K mg base CX0 1 f fd ["self","year"] (spSky C):=by
 refine F.ok QO (λl H Q E h=>?_) (λu A outer s H l Q E o h=>?_)
 ·obtain ⟨p,g,y,i,wr,rfl,_⟩:=h
  rfl
 ·obtain ⟨p,g,y,i,wr,rfl,I,t,n,h1,h2,k⟩:=h
  have b:H g.ye=some (.dK (i.map kvA)):=by rw [<- t];exact I.ye
  obtain ⟨m,j,c⟩:=VE I.rows h1 y
  refine ⟨_,(jb (jk (QQ (qk o) (xo K (pv 0)) (pv 1) (jp (jg K) (xo K (pv 0)) (jr xT (pv 1) (jf (ji K) rfl nb.b_len b9 (j0 (xo K (pv 0)) j5))) (λ_ _=>rfl)) ⟨rfl,rfl,rfl,rfl⟩))),?_⟩
  walk_at "r"
  refine ⟨p,C,g.dx,_,_,rfl,I.ob,T.cl,T.nY,hV _ _ _ _ _,?_⟩
  walk_at "r"
  refine ⟨.inl ⟨_,.inl b⟩,?_⟩
  walk_at "r"
  refine ⟨p,C,g.dx,_,_,rfl,I.ob,T.cl,T.nC,kE _ _ _ _ _,?_⟩
  walk_at "r"
  refine ⟨p,C,g.dx,_,_,rfl,I.ob,T.cl,T.nC,kE _ _ _ _ _,?_⟩
  walk_at "r"
  refine ⟨g.cy,_,rfl,.inl (SqL.of I.cy),?_⟩
  have v:g.ys.length=g.rows.length:=I.rows.length
  walk_at "r"
  refine ⟨_,_,_,_,rfl,rfl,SqL.of I.cy,j,?_⟩
  rcases gu n y with ⟨a,q,e,d,h⟩ | ⟨e,d⟩
  ·refine ⟨some (.ref a),by rw [<- e];exact qQ.k (k:=.inl y) b,?_⟩
   exact k a (by unfold Zx;rw [d];exact h)
  ·refine ⟨none,by rw [<- e];exact qQ.k (k:=.inl y) b,?_⟩
   exact k m (by unfold Zx;rw [d];exact c)
inductive spRowL  (vs:List V) (H:Hp) (Q:VK) (z_3:XK):Prop
 | mk (sd:Addr) (c:ScN) (y:Int) (wr:List (Int×T3)) (_:vs=[.ref sd,.int y]) (_:ScAt H sd c) (_:yZ H c.sk wr) (_:1<=c.ts.length) (_:c.ts.length<=1000) (_:∀t,H t=some (vJ (Zx wr c.ts y))->Q (.ref t) H)
theorem ZF:FnScope ["_law_scene_here","_law_year_here"] ["_law_scene_here","_law_year_here"] (ja wg):=by walk_at "s"
theorem GE (nb:Nb2 mg) (F:Fun K "_law_row" "_law_row" wg f fd):FnOk P w K mg base CX0 1 f fd ["_law_scene_here","_law_year_here"] spRowL:=by
 refine F.ok ZF (λl H Q E h=>?_) (λo A outer s H l Q E b h=>?_)
 ·obtain ⟨d,c,y,wr,rfl,_⟩:=h
  rfl
 ·obtain ⟨d,c,y,wr,rfl,S,n,h1,h2,k⟩:=h
  refine ⟨_,(j6 (jN (VB (Gm (qk b) (pv 1) ↥146) ↥60) (jb (jk (jW (qk b) ↥146 (pv 1) (λ_ _=>rfl)))) jv)
   (jb (jk (jp (jg K) ↥146 (jr xT (pv 1) (jf (ji K) rfl nb.b_len b9 (j0 ↥146 j5))) (λ_ _=>rfl))))),?_⟩
  obtain ⟨m,j,g⟩:=VE S.r3 h1 y
  walk_at "r"
  refine ⟨d,.ref c.sg,rfl,by rw [<- yg c.p c.q c.sg c.gl c.ll];exact qQ.k (k:=.inr "single") S.sd,?_⟩
  rcases gu n y with ⟨a,q,e,i,h⟩ | ⟨e,i⟩
  ·refine ⟨c.sg,some (.ref a),rfl,.inl ⟨_,.inl y,S.sg,rfl,e.symm⟩,?_⟩
   walk_at "r"
   refine ⟨d,.ref c.sg,rfl,by rw [<- yg c.p c.q c.sg c.gl c.ll];exact qQ.k (k:=.inr "single") S.sd,?_⟩
   walk_at "r"
   refine ⟨c.sg,.ref a,rfl,.inl ⟨_,.inl y,S.sg,rfl,e.symm⟩,?_⟩
   exact k a (by unfold Zx;rw [i];exact h)
  ·refine ⟨c.sg,none,rfl,.inl ⟨_,.inl y,S.sg,rfl,e.symm⟩,?_⟩
   have t:c.ys.length=c.ts.length:=S.r3.length
   walk_at "r"
   refine ⟨d,.ref c.q,rfl,by rw [<- Qn c.p c.q c.sg c.gl c.ll];exact qQ.k (k:=.inr "rows") S.sd,?_⟩
   walk_at "r"
   refine ⟨d,.ref c.q,rfl,by rw [<- Qn c.p c.q c.sg c.gl c.ll];exact qQ.k (k:=.inr "rows") S.sd,?_⟩
   walk_at "r"
   refine ⟨c.q,_,rfl,.inl (SqL.of S.q),?_⟩
   walk_at "r"
   refine ⟨_,_,_,_,rfl,rfl,SqL.of S.q,j,?_⟩
   exact k m (by unfold Zx;rw [i];exact g)
noncomputable abbrev Q4:=Int×Int×Int×Int
noncomputable abbrev tup4 (q:Q4):HO:=.tup [.int q.1,.int q.2.1,.int q.2.2.1,.int q.2.2.2]
noncomputable def wU (H:Hp) (out:List V) (qs:List Q4):Prop:=cW (λv (q:Q4)=>∃b,v=V.ref b/\H b=some (tup4 q)) out qs
theorem wU.keep (h:wU H out qs) (t:jn H H'):wU H' out qs:=Paired.mapP h λ_ _ ⟨b,e,q⟩=>⟨b,e,t _ _ q⟩
noncomputable def plc (ns:List (Int×Int)) (m y:Int):Int:=y+jA ns y-m
noncomputable def zu (ns:List (Int×Int)) (gd:List Int) (wr:List (Int×T3)) (ts:List T3) (m y:Int):Int:=chg (Zx wr ts y) (gd.getD (plc ns m y).toNat 0)
noncomputable def yB (ns:List (Int×Int)) (gd:List Int) (wr:List (Int×T3)) (ts:List T3) (m fst:Int):Nat->Int
 | 0=>0
 | i+1=>yB ns gd wr ts m fst i+(if zu ns gd wr ts m (fst+(i:Int)) > - yB ns gd wr ts m fst i then zu ns gd wr ts m (fst+(i:Int)) else-yB ns gd wr ts m fst i)
noncomputable def kj (ns:List (Int×Int)) (gd:List Int) (wr:List (Int×T3)) (ts:List T3) (m fst:Int) (i:Nat):Q4 :=
 (fst+(i:Int),plc ns m (fst+(i:Int)),(if zu ns gd wr ts m (fst+(i:Int)) > - yB ns gd wr ts m fst i then zu ns gd wr ts m (fst+(i:Int)) else-yB ns gd wr ts m fst i),yB ns gd wr ts m fst (i+1))
noncomputable def uP (ns:List (Int×Int)) (gd:List Int) (wr:List (Int×T3)) (ts:List T3) (m fst:Int) (n:Nat):List Q4:=(aW n).map (kj ns gd wr ts m fst)
noncomputable def jT (ms:List (Int×Int)) (gd:List Int) (wr:List (Int×T3)) (ts:List T3) (m:Int):List Q4:=uP ms gd wr ts m (jz 0 0 ms m) (↥147).toNat
theorem kB (ns:List (Int×Int)) (gd:List Int) (wr:List (Int×T3)) (ts:List T3) (m fst:Int) (n:Nat):uP ns gd wr ts m fst (n+1)=uP ns gd wr ts m fst n++[kj ns gd wr ts m fst n]:=by
 unfold uP
 rw [dg,aD]
 rfl
theorem wR:∀{xs ys:List (Int×Int)},xs.Perm ys->(xs.map (·.1)).Pairwise (· < ·)->(ys.map (·.1)).Pairwise (· < ·)->xs=ys
 | [],ys,p,_,_=>p.nil_eq
 | x::r,[],p,_,_=>absurd p.length_eq (by simp)
 | x::r,y::t,p,d,c=>by
  rw [aQ,ie] at d c
  have e:x=y:=by
   rcases List.mem_cons.mp (p.mem_iff.mpr (aM (a:=y) (l:=t))) with e | e
   ·exact e.symm
   ·rcases List.mem_cons.mp (p.mem_iff.mp (aM (a:=x) (l:=r))) with e2 | e2
    ·exact e2
    ·have a:=d.1 _ (bV e)
     have b:=c.1 _ (bV e2)
     right
  subst e
  rw [wR (pW p) d.2 c.2]
theorem y8 {ns ms os:List (Int×Int)}(j: (↥85).Nodup) (p:ms.Perm ns) (s: (↥66).Pairwise (· <= ·)) (q:os.Perm ns) (t:(os.map (·.1)).Pairwise (· <= ·)):os=ms :=
 wR (q.trans p.symm) (qR t ((q.map (·.1)).nodup_iff.mpr j)) (qR s ((p.map (·.1)).nodup_iff.mpr j))
theorem kz:∀{ns:List (Int×Int)},(↥85).Nodup->∀y:Int,jA ns (y+1)=jA ns y+qU ns (y+1)
 | [],_,y=>rfl
 | q::r,c,y=>by
  rw [aQ] at c
  obtain ⟨h1,h2⟩:=List.nodup_cons.mp c
  have f:=kz h2 y
  rw [qe,qe]
  unfold qU
  by_cases e:q.1=y+1
  ·have z:qU r (y+1)=0:=by
    have:∀{l:List (Int×Int)} {y:Int},y∉l.map (·.1)->qU l y=0:=λ{l}=>by
     induction l with
     | nil=>intro _ _;rfl
     | cons a t d =>
      intro y b
      rw [aQ,eN,not_or] at b
      unfold qU
      rw [if_neg (λz=>b.1 z.symm)]
      exact d b.2
    exact this (by rw [<- e];exact h1)
   rw [if_pos e,if_pos (),if_neg ()]
   right
  ·rw [if_neg e]
   by_cases l:q.1<=y
   ·rw [if_pos l,if_pos ()];right
   ·rw [if_neg l,if_neg ()];right
theorem JK:∀(ns:List (Int×Int)) (y:Int),(qE (ns.map kvI) (.inl y)).getD (.int 0) = .int (qU ns y)
 | [],y=>rfl
 | q::r,y=>by
  rw [aQ]
  unfold qU
  by_cases e:q.1=y
  ·subst e
   rw [if_pos rfl,show qE (kvI q::r.map kvI) (.inl q.1)=some (.int q.2) from xF]
   rfl
  ·rw [if_neg e,show qE (kvI q::r.map kvI) (.inl y)=qE (r.map kvI) (.inl y) from jx λw=>e (eX w)]
   exact JK r y
inductive spLife (C CN:Addr) (vs:List V) (H:Hp) (Q:VK) (E:XK):Prop
 | mk (p:Addr) (g:IceG) (l m:Int) (sk:List (Int×Addr)) (wr:List (Int×T3)) (_:vs=[.ref p,.int l,.int m]) (_:IceAt C H p g) (_:g.lds.length=g.slopes.length) (_:g.kvs=sk.map kvA) (_:yZ H sk wr) (_:1<=g.rows.length) (_:g.rows.length<=1000) (_:(∀H',jo H H'->l<0\/ ↥16<=l->E (.ref CN) none H')) (_:(0<=l->l< ↥16->∃ns ms,Ui g l ns/\(∀q∈ns,0<=q.1)/\ (↥21).length<=100/\ms.Perm ns/\ (↥66).Pairwise (· <= ·) /\
  ∀o H' out,H o=none->H' o=some (.lst out)->wU H' out (jT ms ↥21 wr g.rows m)->jo H H'->Q (.ref o) H'))
theorem qW:FnScope ["ice","lane","mark","years","first","last","surges","leaps","place","rows","lying","year","moved"] ["ice","lane","mark"] (ja XX):=by walk_at "s"
theorem Uv (nb:Nb2 mg) (an:mg "dict" = none) (U:Cls K C) (am:CalX P w K mg base 3 "span" ["ice","lane","mark"] (spSpan C CN)) (j:CalMX P w K mg base 2 C "surges" ["self","lane"] (spSurgesI C CN)) (ab:Cal P w K mg base 1 "ride_by" ["surges","year"] spRideBy)
  (ac:Cal P w K mg base 1 "change" ["row","height"] spChange) (Y:CalM P w K mg base 1 C "sky" ["self","year"] (spSky C)) (G:CalMX P w K mg base 3 C "height" ["self","lane","place"] (spHeightI C CN CP))
  (F:Fun K "life" "life" XX f fd):FnOk P w K mg base (CX1 P w) 4 f fd ["ice","lane","mark"] (spLife C CN):=by
 refine Fun.okX F qW ↥33 (λb3 A outer s H vs Q E D h=>?_)
 ·obtain ⟨p,g,l,m,sk,wr,rfl,_⟩:=h
  rfl
 ·obtain ⟨p,g,l,m,sk,wr,rfl,I,a1,ek,hw,bl,bk,kx,k⟩:=h
  refine ⟨_,(j6 (js 3 qW.nd (uW am (D.mono ⋯) xQ rfl (j0 (pv 0) (j0 (pv 1) ↥65))))
   (j6 (jN (jq Z6 (pv 3) wb (jw _)) (jb (jk (jB j5))) jv)
   (j6 (xO (pv 3) (qj (n:=2) K rfl (jh (jd (i:=4) qW.nd rfl (aR rfl)) (jh (jd (i:=5) qW.nd rfl (aR rfl)) qi))))
   (j6 (js 6 qW.nd (yS (pv 0) U j (D.mono ⋯) xQ ↥47))
   (j6 (js 7 qW.nd (qN (Zz K rfl) rfl an PyProof.Rows.boot_dict (j0 (pv 6) j5)))
   (j6 (js 8 qW.nd (jr qO (je ab (D.mono ⋯) rfl (j0 (pv 6) (j0 (pv 4) j5))) (pv 2)))
   (j6 (js 9 qW.nd (jB j5))
   (j6 (js 10 qW.nd j7)
   (j6 (WS (qA bh rfl (Jp rfl nb.b_range (j0 (pv 4) (j0 (jr jL (pv 5) j7) j5))) (jd (i:=11) qW.nd rfl (aR rfl)) (j6 (js 12 qW.nd (jf (zA rfl) rfl nb.b_max oX (j0 (kZ vY (pv 10)) (j0 (je ac (D.mono ⋯) rfl (j0 (pe_m (pv 0) U Y (D.mono ⋯) (j0 (pv 11) j5)) (j0 (yS (pv 0) U G (D.mono ⋯) kX (j0 (pv 1) (j0 (pv 8) j5))) j5))) j5))))
   (j6 (JZ (i:=10) qW.nd rfl (aR rfl) (pv 12) Zn)
   (j6 (qa (zw K bF bz bA qh (pv 9) (j0 (qx (j0 (pv 11) (j0 (pv 8) (j0 (pv 12) (j0 (pv 10) j5))))) j5)))
   (jb (JZ (i:=8) qW.nd rfl (aR rfl) (jr jL j7 (QQ (qk D) (pv 7) (jr jL (pv 11) j7) j7 ⟨rfl,rfl,rfl,rfl⟩)) Zn)))))))
   (jb (jk (pv 9)))))))))))),?_⟩
  walk_at "r"
  refine ⟨p,g,l,m,rfl,I,a1,kx,λl0 l1=>?_⟩
  obtain ⟨ns,ms,⟨_,_,⟨a,ha⟩,B,al,h9⟩,bn,b0,u,X,k⟩:=k l0 l1
  have J:∀q∈ns,0<=q.1/\0<=q.2:=λq hq=>⟨bn q hq,(h9 q hq).1⟩
  refine ⟨a,ns,ha,B,al,λos aL as fst M R e2=>?_⟩
  obtain rfl:=y8 B u X aL as
  clear aL as
  refine ⟨λa0 t H1 s1 be=>?_,λa0 H1 s1=>?_⟩
  ·have hn:(M-1+1-fst).toNat=(M-fst).toNat:=()
   have on:=λw hw=>yD u X B J m (↥21).length w hw
   have f0:=zc u X J m
   have a8:=ki u X B J m (↥21).length (by rw [<- R,<- e2];exact a0)
   unfold jT at k
   rw [<- R,<- e2] at k a8
   rw [<- R] at f0
   rw [<- R,<- e2] at on
   have a4:=λy=>xv u y
   have ap:(os.map (·.1)).Nodup:=(u.map (·.1)).nodup_iff.mpr B
   have bs:∀q∈os,0<=q.2/\q.2<=9:=λq hq=>h9 q (u.mem_iff.mp hq)
   have b2:os.length<64:=by rw [u.length_eq];exact al
   clear R e2
   generalize a3:g.slopes.getD l.toNat []=gd at *
   walk_at "r"
   refine ⟨t,_,rfl,SqT.of be,rfl,?_⟩
   refine ⟨_,_,rfl,_,_,rfl,rfl,?_⟩
   walk_at "r"
   refine ⟨p,g.dx,_,rfl,s1 _ _ I.ob,qY ∅,?_⟩
   walk_at "r"
   refine ⟨p,g,l,rfl,I.same s1,a1,(λhb=>absurd hb ()),λ_ _=>⟨a,ns,ha,B,al,λso H2 out b b1 T az s2 bm bi=>?_⟩⟩
   obtain rfl:=y8 B u X bm bi
   walk_at "r"
   refine ⟨so,out,b,rfl,SqL.of T,az,ap,(),λd H3 hd Z s3=>?_⟩
   have Z:H3 d=some (.dK (b.map kvI)):=Z
   walk_at "r"
   refine ⟨so,out,b,fst,rfl,s3 _ _ T,wN.same az s3,(),bs,λH4 s4=>?_⟩
   walk_at "r"
   refine ⟨aB _,λrw_ H5 L a6 s5=>?_⟩
   have S4:jo H H4:=((s1.trans s2).trans s3).trans s4
   have d4:=s4 _ _ Z
   have a9:H rw_=none:=S4.free L
   walk_at "r"
   refine ⟨_,_,rfl,?_⟩
   refine qI (λi σ H6=>∃(x y:Option V) (e:List V),σ=[some (.ref p),some (.int l),some (.int m),some (.ref t),some (.int fst),some (.int (M-1)),some (.ref so),some (.ref d),some (.int (plc b m (fst+(i:Int)))),some (.ref rw_),some (.int (yB b gd wr g.rows m fst i)),x,y]/\H6 rw_=some (.lst e)/\e.length=i/\wU H6 e (uP b gd wr g.rows m fst i)/\Ext rw_ H4 H6) ?_ ?_ ?_
   ·refine ⟨none,none,[],?_,a6,rfl,.nil,λc o v _=>s5 _ _ v⟩
    rw [show fst+((0:Nat):Int)=fst by right]
    rfl
   ·rintro i σ H6 hi ⟨x,y,e,rfl,O,a2,r6,e6⟩
    rw [hn] at hi
    have y0:0<=fst+(i:Int):=()
    have S:=(on _ y0).mpr ⟨(),()⟩
    rw [<- a4] at S
    have S:0<=plc b m (fst+(i:Int))/\plc b m (fst+(i:Int))< ↥58:=S
    have s6:jo H4 H6:=λc o v=>e6 c o v (j4 v L)
    have I6:=I.same (S4.trans s6)
    have ba:yZ H6 sk wr:=hw.keep (jn.same (S4.trans s6))
    walk_at "r"
    refine ⟨p,g.dx,_,rfl,I6.ob,qY ∅,?_⟩
    walk_at "r"
    refine ⟨p,g,fst+(i:Int),sk,wr,rfl,I6,ek,ba,bl,bk,λtr bc=>?_⟩
    walk_at "r"
    refine ⟨p,g.dx,_,rfl,I6.ob,qY ∅,?_⟩
    walk_at "r"
    refine ⟨p,g,l,plc b m (fst+(i:Int)),rfl,I6,λ_ _ _ _=>?_,(λhb=>absurd hb ()),λ_ _ hb=>absurd hb (by rw [a3];right)⟩
    rw [a3]
    walk_at "r"
    refine ⟨tr,_,_,rfl,bc,?_⟩
    walk_at "r"
    refine ⟨_,_,rfl,?_⟩
    walk_at "r"
    refine ⟨.inl ⟨rfl,_,SqL.of O⟩,?_⟩
    walk_at "r"
    refine ⟨by show 4<=sizeLine;decide,λtq H7 bd a5 N=>?_⟩
    refine ⟨_,_,_,rfl,rfl,N _ _ O,jj (),?_⟩
    have d7:upd H7 rw_ (.lst (e++[.ref tq])) d=some (.dK (b.map kvI)):=by rw [j8 (j4 d4 L)];exact N _ _ (s6 _ _ d4)
    have a7:tq≠rw_:=(j4 O bd).symm
    walk_at "r"
    refine ⟨.inl ⟨_,.inl d7⟩,?_⟩
    walk_at "r"
    refine ⟨_,qQ.k (k:=.inl (fst+(i:Int)+1)) d7,?_⟩
    rw [JK]
    walk_at "r"
    have bv:plc b m (fst+((i+1:Nat):Int))=plc b m (fst+(i:Int))+(1+qU b (fst+(i:Int)+1)):=by
     have:=kz ap (fst+(i:Int))
     rw [show fst+((i+1:Nat):Int)=fst+(i:Int)+1 by right]
     unfold plc
     right
    refine ⟨_,_,e++[.ref tq],by rw [bv];rfl,j9,by rw [ar,a2];rfl,?_,λc o v n=>by rw [j8 n];exact N _ _ (e6 c o v n)⟩
    rw [kB]
    exact cE (r6.keep λa xs q=>by rw [j8 (jm (N _ _ q) (N _ _ O) ↥3)];exact N _ _ q) ⟨tq,rfl,by rw [j8 a7];exact a5⟩
   ·rintro σ H6 ⟨x,y,e,rfl,O,a2,r6,e6⟩
    rw [hn] at r6
    walk_at "r"
    exact k rw_ H6 e a9 O r6 (S4.trans λc o v=>e6 c o v (j4 v L))
  ·have hz:(M-fst).toNat=0:=()
   unfold jT at k
   rw [<- R,<- e2,hz] at k
   walk_at "r"
   refine ⟨aB _,λo H2 ho bq s2=>?_⟩
   exact k o H2 [] (s1.free ho) bq .nil (s1.trans s2)
noncomputable def xl (y:Int):List (List Int)->List Q4->List (List Int)
 | _,[]=>[]
 | acc,q::r=>if q.1=y then (if q.2.2.2=0 then acc++[[q.1,q.2.1]] else []) else xl y (if q.2.2.2=0 then [] else acc++[[q.1,q.2.1]]) r
theorem jU.keep {rows:List (List Int)}(h:jU H vs rows) (t:jn H H'):jU H' vs rows:=Paired.mapP h λ_ _ ⟨n,b,e,q⟩=>⟨n,b,e,t _ _ q⟩
inductive spLeft  (vs:List V) (H:Hp) (Q:VK) (z_3:XK):Prop
 | mk (ro:Addr) (y:Int) (out:List V) (W:List Q4) (_:vs=[.ref ro,.int y]) (_:H ro=some (.lst out)) (_:wU H out W) (_:W.length<=100) (_:∀l H' ls,H l=none->H' l=some (.lst ls)->jU H' ls (xl y [] W)->jo H H'->Q (.ref l) H')
theorem xr:FnScope ["rows","year","riding","when","where","moved","lying"] ["rows","year"] (ja we):=by walk_at "s"
theorem Z2 (F:Fun K "left_in" "left_in" we f fd):FnOk P w K mg base CX0 1 f fd ["rows","year"] spLeft:=by
 refine F.ok xr ↥33 (λap A outer s H vs Q E hr h=>?_)
 ·obtain ⟨S,y,out,W,rfl,_⟩:=h
  rfl
 ·obtain ⟨S,y,out,W,rfl,N,hW,am,k⟩:=h
  have an:out.length=W.length:=aP hW
  obtain ⟨R,hR⟩:∃R,xl y [] W=R:=⟨_,rfl⟩
  rw [hR] at k
  refine ⟨_,(j6 (js 2 xr.nd (jB j5))
   (j6 (qA bh rfl (jX K (pv 0)) (qj (n:=4) K rfl (jh (jd (i:=3) xr.nd rfl (aR rfl)) (jh (jd (i:=4) xr.nd rfl (aR rfl)) (jh (jd (i:=5) xr.nd rfl (aR rfl)) (jh (jd (i:=6) xr.nd rfl (aR rfl)) qi))))) (j6 (qa (zw K bF bz bA qh (pv 2) (j0 (qx (j0 (pv 3) (j0 (pv 4) j5))) j5)))
   (j6 (jN (jq xA (pv 3) (pv 1) (jw _)) (jb (jk (Xr (jq xA (pv 6) j7 (jw _)) (pv 2) (jB j5)))) jv)
   (jb (jN (jq xA (pv 6) j7 (jw _)) (jb (js 2 xr.nd (jB j5))) jv)))))
   (jb (jk (jB j5))))),?_⟩
  walk_at "r"
  refine ⟨aB _,λr0 H1 ac X s1=>?_⟩
  walk_at "r"
  refine ⟨⟨_,SqL.of (s1 _ _ N)⟩,?_⟩
  refine yf (K:=K) (a:=S) (xs:=out) (λi σ H2=>∃(rd:Addr) (L J I G:Option V) (os:List V) (acc:List (List Int)),σ=[some (.ref S),some (.int y),some (.ref rd),L,J,I,G]/\H rd=none/\H2 rd=some (.lst os)/\os.length<=i/\jU H2 os acc/\xl y acc (W.drop i)=R/\jo H H2) ?_ ?_ ?_ ?_
  ·exact ⟨r0,_,_,_,_,[],[],rfl,ac,X,ak _,.nil,hR,s1⟩
  ·rintro i σ H2 hi ⟨rd,L,J,I,G,os,acc,rfl,D,t,e3,Y,b,p⟩
   exact SqL.of (p _ _ N)
  ·rintro i v σ H2 hv ⟨rd,L,J,I,G,os,acc,rfl,D,t,e3,Y,b,p⟩
   obtain ⟨q,hq,bq,rfl,C⟩:=Paired.get hW hv
   have C:H2 bq=some (.tup [.int q.1,.int q.2.1,.int q.2.2.1,.int q.2.2.2]):=p _ _ C
   have hi:i<W.length:=(List.getElem?_eq_some_iff.mp hq).1
   have ed:W.drop i=q::W.drop (i+1):=by
    rw [cj hi,(List.getElem?_eq_some_iff.mp hq).2]
   rw [ed] at b
   walk_at "r"
   refine ⟨bq,_,rfl,SqT.of C,rfl,?_⟩
   refine ⟨_,_,rfl,_,_,rfl,_,_,rfl,_,_,rfl,rfl,?_⟩
   walk_at "r"
   refine ⟨.inl ⟨rfl,_,SqL.of t⟩,?_⟩
   walk_at "r"
   refine ⟨by show 2<=sizeLine;decide,λg H7 ab U x=>?_⟩
   refine ⟨_,_,_,rfl,rfl,x _ _ t,jj (),?_⟩
   have Z:g≠rd:=(j4 t ab).symm
   have m:jo H (upd H7 rd (.lst (os++[.ref g]))):=λc o hc=>by rw [j8 (j4 hc D)];exact x _ _ (p _ _ hc)
   have T:jU (upd H7 rd (.lst (os++[.ref g]))) (os++[.ref g]) (acc++[[q.1,q.2.1]]) :=
    cE (jU.keep Y λa xs z=>by rw [j8 (jm (x _ _ z) (x _ _ t) ↥3)];exact x _ _ z) ⟨↥3,g,rfl,by rw [j8 Z];exact U⟩
   have l8:(os++[V.ref g]).length<=i+1:=by rw [ar];show os.length+1<=_;right
   generalize al:upd H7 rd (.lst (os++[.ref g]))=H8 at m T ⊢
   have h8:H8 rd=some (.lst (os++[.ref g])):=by rw [<- al];exact j9
   unfold xl at b
   walk_at "r"
   refine qp (λO=>?_) (λO=>?_)
   ·rw [if_pos (V.int.inj O)] at b
    walk_at "r"
    refine qp (λl=>?_) (λl=>?_)
    ·rw [if_pos (V.int.inj l)] at b
     walk_at "r"
     exact k rd H8 _ D h8 (by rw [<- b];exact T) m
    ·rw [if_neg λe=>l (congrArg V.int e)] at b
     walk_at "r"
     refine ⟨aB _,λB M j d u=>?_⟩
     exact k B M [] (m.free j) d (by rw [<- b];exact .nil) (m.trans u)
   ·rw [if_neg λe=>O (congrArg V.int e)] at b
    walk_at "r"
    refine qp (λl=>?_) (λl=>?_)
    ·rw [if_pos (V.int.inj l)] at b
     walk_at "r"
     refine ⟨aB _,λB M j d u=>?_⟩
     walk_at "r"
     exact ⟨B,_,_,_,_,[],[],rfl,m.free j,d,aB _,.nil,b,m.trans u⟩
    ·rw [if_neg λe=>l (congrArg V.int e)] at b
     walk_at "r"
     exact ⟨rd,_,_,_,_,_,_,rfl,D,h8,l8,T,b,m⟩
  ·rintro σ H2 ⟨rd,L,J,I,G,os,acc,rfl,D,t,e3,Y,b,p⟩
   rw [fj ()] at b
   unfold xl at b
   walk_at "r"
   refine ⟨aB _,λB M j d u=>?_⟩
   exact k B M [] (p.free j) d (by rw [<- b];exact .nil) (p.trans u)
theorem UT {X:Cx}(K:af) (h:X.K=K:=by rfl):IxR X rIxS:=G9
noncomputable def ltr (n:Int):Str:=⟨#[97+n.toNat]⟩
inductive spLetter  (vs:List V) (H:Hp) (Q:VK) (z_3:XK):Prop
 | mk (n:Int) (_:vs=[.int n]) (_:0<=n/\n<26/\Q (.str (ltr n)) H)
theorem G5:∀k:Fin 26,atI (aj "abcdefghijklmnopqrstuvwxyz").cps.toList ((k.val:Nat):Int)=some (97+k.val):=∅
theorem Je:FnScope ["_law_number"] ["_law_number"] (ja yu):=by walk_at "s"
theorem J9 (F:Fun K "_law_letter" "_law_letter" yu f fd):FnOk P w K mg base CX0 1 f fd ["_law_number"] spLetter:=by
 refine F.ok Je (λa H Q E h=>?_) (λb A outer s H a Q E g h=>?_)
 ·obtain ⟨n,rfl,_⟩:=h
  rfl
 ·obtain ⟨n,rfl,d,c,k⟩:=h
  refine ⟨_,(jb (jk (jp (UT K) jC (pv 0) (λ_ _=>rfl)))),?_⟩
  walk_at "r"
  have e:=G5 ⟨n.toNat,()⟩
  rw [show ((n.toNat:Nat):Int)=n by right] at e
  exact ⟨_,_,_,rfl,rfl,∅,e,k⟩
theorem vU {gd:List Int}{m:Int}{i:Nat}(h:i< (↥147).toNat):(jT ms gd wr ts m)[i]? = some (kj ms gd wr ts m (jz 0 0 ms m) i):=by
 unfold jT uP
 rw [aH,lL h]
 rfl
theorem zH (ms:List (Int×Int)) (gd:List Int) (wr:List (Int×T3)) (ts:List T3) (m:Int):(jT ms gd wr ts m).length=(↥147).toNat:=by
 unfold jT uP
 rw [ag,bQ]
theorem ScAt.frM {sd:Addr}(S:ScAt H sd c) (f:FrM c.D H H'):ScAt H' sd c:=S.keep (N:=λ_=>False) (λc o h _=>f c o h) (λ_ _ _ z=>z) id S.nD id id id id (λ_ _=>id) id (λ_ _=>id)
theorem FrM.keepT (f:FrM M H H'):jn H H':=λa xs h=>f.at h ↥4
theorem FrM.put (f:FrM M H H') (n:H c=none):FrM M H (upd H' c o):=λd u a=>by
 have:d≠c:=λe=>by rw [e,n] at a;cases a
 rw [j8 this]
 exact f d u a
theorem FrM.no (f:FrM M H H') (n:H' c=none):H c=none:=by
 cases e:H c with
 | none=>rfl
 | some o =>
  rcases f c o e with h | ⟨_,_,_,_,h⟩
  ·rw [n] at h;cases h
  ·rw [n] at h;cases h
inductive spLifeAt  (vs:List V) (H:Hp) (Q:VK) (z_3:XK):Prop
 | mk (sd:Addr) (c:ScN) (l n y:Int) (wy:List Int) (da:Addr) (dn ms:List (Int×Int)) (wr:List (Int×T3)) (_:vs=[.ref sd,.int l,.int n,.int y]) (_:ScAt H sd c) (_:0<=l) (_:c.ws[l.toNat]? = some wy) (_:0<=n) (_:n<((jc c.rs wy).length:Int)) (_:(jc c.rs wy).length<=100) (_:0<=y) (_:c.lds[l.toNat]? = some (da,dn)) (_:dn.length<=100) (_:(dn.map (·.1)).Nodup) (_:(∀q∈dn,0<=q.1/\0<=q.2/\q.2<=9)) (_:ms.Perm dn) (_: (↥66).Pairwise (· <= ·)) (_:yZ H c.sk wr) (_:1<=c.ts.length) (_:c.ts.length<=1000) (_:∀o H' out,H o=none->H' o=some (.lst out)->wU H' out (jT ms (jc c.rs wy) wr c.ts (y+jA dn y-n))->FrM c.D H H'->Q (.ref o) H')
theorem jF:FnScope ["_law_scene_here","_law_lane","_law_place","_law_year_here","_law_ground_here","_law_one","_law_first","_law_step","_law_rows","_law_high","_law_when","_law_spot_here","_law_later"] ["_law_scene_here","_law_lane","_law_place","_law_year_here"] (ja yb):=by walk_at "s"
theorem ZG (nb:Nb2 mg) (j:Cal P w K mg base 1 "_law_ride" ["_law_scene_here","_law_lane","_law_year_here"] spRide) (G:Cal P w K mg base 1 "_law_wish" ["_law_row_here","_law_height"] spWish) (I:Cal P w K mg base 1 "_law_row" ["_law_scene_here","_law_year_here"] spRowL)
  (F:Fun K "_law_life_at" "_law_life_at" yb f fd):FnOk P w K mg base CX0 2 f fd ["_law_scene_here","_law_lane","_law_place","_law_year_here"] spLifeAt:=by
 refine F.ok jF ↥33 (λb4 A outer s H vs Q E U h=>?_)
 ·obtain ⟨o,c,l,n,y,wy,da,t,ms,wr,rfl,_⟩:=h
  rfl
 ·obtain ⟨o,c,l,n,y,wy,da,t,ms,wr,rfl,S,l0,a5,n0,n1,bk,y0,a7,m,T,R,C,hs,hw,t1,t2,k⟩:=h
  have N:=aC a7
  have as:c.D da:=.inr ⟨_,N,rfl⟩
  have aL:c.lds.map (λx=>V.ref x.1)=(c.lds.map (·.1)).map V.ref:=by rw [cz];rfl
  have a1:(c.lds.map (·.1))[l.toNat]? = some da:=by rw [aH,a7];rfl
  have a2:∀q∈t,0<=q.2/\q.2<=9:=λq B=>⟨(R q B).2.1,(R q B).2.2⟩
  have O:∀q∈t,0<=q.1/\0<=q.2:=λq B=>⟨(R q B).1,(R q B).2.1⟩
  obtain ⟨one,az⟩:∃one,y+jA t y-n=one:=⟨_,rfl⟩
  rw [az] at k
  unfold jT at k
  have u:=λy=>xv C y
  have on:=λw hw=>yD C hs T O one (jc c.rs wy).length w hw
  have a4:∀w,0<=w->(one<=w+jA t w↔jz 0 0 ms one<=w):=λw hw=>by
   have:=wA ms 0 0 one w (λq B=>O q (C.mem_iff.mp B)) (qR hs ((C.map (·.1)).nodup_iff.mpr T)) hw
   rw [xv C,Int.add_zero] at this
   exact this
  have f0:=zc C hs O one
  have b2:=(on y y0).mp ⟨(),()⟩
  have b1:=ki C hs T O one (jc c.rs wy).length ()
  generalize jz 0 0 ms one=fst at *
  generalize jz 0 0 ms (one+((jc c.rs wy).length:Int))=b at *
  have bl:c.zs.length=c.ws.length:=(aP S.gi).trans (ag _)
  have a6:l.toNat<c.zs.length:=by rw [bl];exact (List.getElem?_eq_some_iff.mp a5).1
  obtain ⟨bv,am,ga,b0,M⟩:=Paired.get S.gi (ae a6)
  have:bv=jc c.rs wy:=by
   rw [aH,a5] at am
   exact (bB am).symm
  subst this
  generalize b3:jc c.rs wy=gd at *
  refine ⟨_,(j6 (js 4 jF.nd (jp (jg K) (jW (qk U) (pv 0) jC (λ_ _=>rfl)) (pv 1) (λ_ _=>rfl)))
   (j6 (js 5 jF.nd (jr qO (je j (U.mono ⋯) rfl (j0 (pv 0) (j0 (pv 1) (j0 (pv 3) j5)))) (pv 2)))
   (j6 (js 6 jF.nd (pv 3))
   (j6 (qA bh rfl (qy rfl nb.b_range (j0 (jf (ji K) rfl nb.b_len b9 (j0 (pv 4) j5)) j5)) (jd (i:=7) jF.nd rfl (aR rfl)) (jb (jN (PW.pt (vm (jq QG (pv 6) j7 (jw _)) (yO (jq QX (je j (U.mono ⋯) rfl (j0 (pv 0) (j0 (pv 1) (j0 (jr qO (pv 6) j7) j5)))) (pv 5) (jw _))))) (jb (js 6 jF.nd (jr qO (pv 6) j7))) jv)))
   (j6 (js 8 jF.nd (jB j5))
   (j6 (js 9 jF.nd j7)
   (j6 (qA bh rfl (Jp rfl nb.b_range (j0 (pv 6) (j0 (jr jL (pv 3) (jf (ji K) rfl nb.b_len b9 (j0 (pv 4) j5))) j5))) (jd (i:=10) jF.nd rfl (aR rfl)) (j6 (js 11 jF.nd (jr qO (je j (U.mono ⋯) rfl (j0 (pv 0) (j0 (pv 1) (j0 (pv 10) j5)))) (pv 5)))
   (jb (jN (jq vK (pv 11) (jf (ji K) rfl nb.b_len b9 (j0 (pv 4) j5)) (jw _)) (j6 (js 12 jF.nd (jf (zA rfl) rfl nb.b_max oX (j0 j7 (j0 (jr jL (pv 9) (je G (U.mono ⋯) rfl (j0 (je I (U.mono ⋯) rfl (j0 (pv 0) (j0 (pv 10) j5))) (j0 (jp (jg K) (pv 4) (pv 11) (λ_ _=>rfl)) j5)))) j5))))
   (j6 (qa (zw K bF bz bA qh (pv 8) (j0 (qx (j0 (pv 10) (j0 (pv 11) (j0 (jr qO (pv 12) (pv 9)) (j0 (pv 12) j5))))) j5)))
   (jb (js 9 jF.nd (pv 12))))) jv))))
   (jb (jk (pv 8)))))))))),?_⟩
  walk_at "r"
  refine ⟨o,.ref c.gl,rfl,by rw [<- zG c.p c.q c.sg c.gl c.ll];exact qQ.k (k:=.inr "grounds") S.sd,?_⟩
  walk_at "r"
  refine ⟨_,_,_,_,rfl,rfl,SqL.of S.gl,xg l0 (v:=V.ref ga) (by rw [ae a6,b0]),?_⟩
  walk_at "r"
  refine ⟨c.D,o,c.p,c.q,c.sg,c.gl,c.ll,da,c.lds.map (·.1),l,_,t,rfl,S.sd,(by rw [<- aL];exact S.ll),l0,a1,S.ld _ N,as,S.nD,m,T,a2,λH1 f1=>?_⟩
  walk_at "r"
  refine ⟨_,_,rfl,.inl (SqL.of (f1.at M ↥4)),?_⟩
  rw [ag]
  walk_at "r"
  refine ⟨(),(),?_⟩
  refine qI (lo:=0) (n:=(↥58).toNat) (λi σ H2=>∃x:Option V,σ=[some (.ref o),some (.int l),some (.int n),some (.int y),some (.ref ga),some (.int one),some (.int (max fst (y-(i:Int)))),x,none,none,none,none,none]/\FrM c.D H H2) ?_ ?_ ?_
  ·refine ⟨none,?_,f1⟩
   rw [show max fst (y-((0:Nat):Int))=y by right,<- az]
   rfl
  ·rintro i σ H2 hi ⟨x,rfl,J⟩
   have S2:=S.frM J
   walk_at "r"
   refine qp (λa9=>?_) (λa9=>?_)
   ·walk_at "r"
    refine ⟨c.D,o,c.p,c.q,c.sg,c.gl,c.ll,da,c.lds.map (·.1),l,_,t,rfl,S2.sd,(by rw [<- aL];exact S2.ll),l0,a1,S2.ld _ N,as,S2.nD,m,T,a2,λH3 f3=>?_⟩
    walk_at "r"
    have al:=a4 (max fst (y-(i:Int))-1) ()
    refine qp (λan=>?_) (λan=>?_)
    ·have h1:=al.mp an
     walk_at "r"
     refine ⟨some (.int (0+(i:Int))),?_,J.trans f3⟩
     rw [show max fst (y-((i+1:Nat):Int))=max fst (y-(i:Int))-1 by right]
     rfl
    ·have h1:=mt al.mpr an
     walk_at "r"
     refine ⟨some (.int (0+(i:Int))),?_,J.trans f3⟩
     rw [show max fst (y-((i+1:Nat):Int))=max fst (y-(i:Int)) by right]
     rfl
   ·walk_at "r"
    refine ⟨some (.int (0+(i:Int))),?_,J⟩
    rw [show max fst (y-((i+1:Nat):Int))=max fst (y-(i:Int)) by right]
    rfl
  rintro σ H2 ⟨x,rfl,J⟩
  rw [show max fst (y-(((↥58).toNat:Nat):Int))=fst by right]
  walk_at "r"
  refine ⟨aB _,λfo H3 bs bc s3=>?_⟩
  have ap:H fo=none:=J.no bs
  have f3:=J.trans (FrM.of_same s3)
  walk_at "r"
  refine ⟨_,_,rfl,.inl (SqL.of (f3.at M ↥4)),?_⟩
  rw [ag]
  walk_at "r"
  refine ⟨_,_,rfl,?_⟩
  refine qI (λi σ X=>∃(ab Z Y:Option V) (out:List V),σ=[some (.ref o),some (.int l),some (.int n),some (.int y),some (.ref ga),some (.int one),some (.int fst),x,some (.ref fo),some (.int (yB ms gd wr c.ts one fst (min i (b-fst).toNat))),ab,Z,Y]/\X fo=some (.lst out)/\out.length=min i (b-fst).toNat/\wU X out (uP ms gd wr c.ts one fst (min i (b-fst).toNat))/\FrM c.D H X) ?_ ?_ ?_
  ·refine ⟨none,none,none,[],?_,bc,by rw [rW];rfl,by rw [rW];exact .nil,f3⟩
   rw [rW]
   rfl
  ·rintro i σ X hi ⟨ab,Z,Y,out,rfl,h4,L,r4,f4⟩
   have w0:0<=fst+(i:Int):=()
   have S4:=S.frM f4
   walk_at "r"
   refine ⟨c.D,o,c.p,c.q,c.sg,c.gl,c.ll,da,c.lds.map (·.1),l,_,t,rfl,S4.sd,(by rw [<- aL];exact S4.ll),l0,a1,S4.ld _ N,as,S4.nD,m,T,a2,λH5 f5=>?_⟩
   rw [<- u]
   have e:=f4.trans f5
   have S5:=S.frM e
   have h5:=f5.at h4 ↥4
   have r5:=r4.keep (FrM.keepT f5)
   have bm:=hw.keep (FrM.keepT e)
   have ac:=on _ w0
   rw [<- u] at ac
   walk_at "r"
   refine ⟨_,_,rfl,.inl (SqL.of (e.at M ↥4)),?_⟩
   rw [ag]
   walk_at "r"
   have bi:=(a4 _ w0).mpr ()
   rw [<- u] at bi
   refine qp (λd=>?_) (λd=>?_)
   ·have d:fst+(i:Int)+jA ms (fst+(i:Int))-one< ↥58:=d
    have hN:=(ac.mp ⟨(),d⟩).2
    have ba:0<=plc ms one (fst+(i:Int))/\plc ms one (fst+(i:Int))< ↥58:=⟨by unfold plc;right,d⟩
    have g:min i (b-fst).toNat=i:=()
    have a3:min (i+1) (b-fst).toNat=i+1:=()
    rw [g] at L r5
    rw [g]
    walk_at "r"
    refine ⟨o,c,fst+(i:Int),wr,rfl,S5,bm,t1,t2,λtr bn=>?_⟩
    walk_at "r"
    refine ⟨_,_,_,_,rfl,rfl,SqL.of (e.at M ↥4),xg ba.1 (VR ()),?_⟩
    walk_at "r"
    refine ⟨tr,_,_,rfl,bn,?_⟩
    walk_at "r"
    refine ⟨_,_,rfl,?_⟩
    walk_at "r"
    refine ⟨.inl ⟨rfl,_,SqL.of h5⟩,?_⟩
    walk_at "r"
    refine ⟨by show 4<=sizeLine;decide,λtq H6 bq a8 s6=>?_⟩
    refine ⟨_,_,_,rfl,rfl,s6 _ _ h5,jj (),?_⟩
    have be:tq≠fo:=(j4 h5 bq).symm
    have a0:yB ms gd wr c.ts one fst (i+1)=(if yB ms gd wr c.ts one fst i+zu ms gd wr c.ts one (fst+(i:Int)) > 0 then yB ms gd wr c.ts one fst i+zu ms gd wr c.ts one (fst+(i:Int)) else 0):=by
     show yB ms gd wr c.ts one fst i+(if zu ms gd wr c.ts one (fst+(i:Int)) > - yB ms gd wr c.ts one fst i then zu ms gd wr c.ts one (fst+(i:Int)) else-yB ms gd wr c.ts one fst i)=_
     split <;> split <;> right
    have bd:(if zu ms gd wr c.ts one (fst+(i:Int)) > - yB ms gd wr c.ts one fst i then zu ms gd wr c.ts one (fst+(i:Int)) else-yB ms gd wr c.ts one fst i)=(if yB ms gd wr c.ts one fst i+zu ms gd wr c.ts one (fst+(i:Int)) > 0 then yB ms gd wr c.ts one fst i+zu ms gd wr c.ts one (fst+(i:Int)) else 0)-yB ms gd wr c.ts one fst i:=by split <;> split <;> right
    walk_at "r"
    rw [a3]
    refine ⟨some (.int (fst+(i:Int))),some (.int (plc ms one (fst+(i:Int)))),_,out++[.ref tq],by rw [a0];rfl,j9,by rw [ar,L];rfl,?_,(e.trans (FrM.of_same s6)).put ap⟩
    rw [kB]
    refine cE (r5.keep λa xs q=>by rw [j8 (jm (s6 _ _ q) (s6 _ _ h5) ↥3)];exact s6 _ _ q) ⟨tq,rfl,?_⟩
    rw [j8 be,a8]
    unfold kj
    rw [a0,bd]
    rfl
   ·have d:¬fst+(i:Int)+jA ms (fst+(i:Int))-one< ↥58:=d
    have hN:=mt ac.mpr (λz=>d z.2)
    have g:min (i+1) (b-fst).toNat=min i (b-fst).toNat:=()
    walk_at "r"
    rw [g]
    exact ⟨_,_,_,out,rfl,h5,L,r5,e⟩
  ·rintro σ X ⟨ab,Z,Y,out,rfl,h4,L,r4,f4⟩
   rw [show min (y+ ↥58-fst).toNat (b-fst).toNat=(b-fst).toNat by right] at r4
   walk_at "r"
   exact k fo X out ap h4 r4 f4
section
variable {L:List Q4}{dp mv pl:Nat->Int}{fst:Int}{n:Nat}
end
theorem Jd (ns:List (Int×Int)):∃ms:List (Int×Int),ms.Perm ns/\ (↥66).Pairwise (· <= ·):=by
 refine ⟨ns.mergeSort (λa b=>decide (a.1<=b.1)),List.mergeSort_perm _ _,?_⟩
 rw [mC]
 exact (List.pairwise_mergeSort (λa b c h1 h2=>by simp at *;right) (λa b=>by simp;right) ns).imp λh=>by simpa using h
inductive ResD where
 | left (y n:Int)
 | off (y:Int)
noncomputable def resT:ResD->List V
 | .left y n=>[.str "left",.int y,.int n]
 | .off y=>[.str "off",.int y]
noncomputable def uY:List Q4->ResD
 | []=>.off 0
 | [q]=>if q.2.2.2=0 then .left q.1 q.2.1 else .off (q.1+1)
 | q::r::t=>if q.2.2.2=0 then .left q.1 q.2.1 else uY (r::t)
theorem uO:∀(m:Nat) {D:List Q4}{q:Q4},D[m]? = some q->q.2.2.2=0->(∀(j:Nat) x,j<m->D[j]? = some x->x.2.2.2≠0)->uY D = .left q.1 q.2.1
 | m,[],q,h,_,_=>by cases h
 | 0,[a],q,h,z,_=>by
  cases h
  exact if_pos z
 | 0,a::b::t,q,h,z,_=>by
  cases h
  exact if_pos z
 | m+1,[a],q,h,_,_=>by cases h
 | m+1,a::b::t,q,h,z,c=>by
  have d:uY (a::b::t)=if a.2.2.2=0 then .left a.1 a.2.1 else uY (b::t):=rfl
  rw [d,if_neg (c 0 a (Nat.succ_pos _) rfl)]
  exact uO m (D:=b::t) h z λj x f e=>c (j+1) x (Nat.succ_lt_succ f) e
theorem wa:∀{D:List Q4}{X:List Q4}{q:Q4},D=X++[q]->(∀x∈D,x.2.2.2≠0)->uY D = .off (q.1+1)
 | [],X,q,h,_=>by cases X <;> cases h
 | [a],X,q,h,c=>by
  cases X with
  | nil =>
   cases h
   exact if_neg (c _ (aM ..))
  | cons x X=>cases X <;> cases h
 | a::b::t,X,q,h,c=>by
  have d:uY (a::b::t)=if a.2.2.2=0 then .left a.1 a.2.1 else uY (b::t):=rfl
  rw [d,if_neg (c a (aM ..))]
  cases X with
  | nil=>cases h
  | cons x X=>exact wa (X:=X) (List.cons.inj h).2 λy e=>c y (aK _ e)
theorem Zd {m:Int}{i:Nat}(h:(jT ms gd wr ts m)[i]? = some q):q.1=jz 0 0 ms m+(i:Int):=by
 have hi:=(List.getElem?_eq_some_iff.mp h).1
 rw [zH] at hi
 rw [vU hi] at h
 cases h
 rfl
structure ByL (H:Hp) (sd:Addr) (c:ScN) (g:IceG) (l n y:Int) (wy:List Int) (da:Addr) (dn ms:List (Int×Int)) (wr:List (Int×T3)):Prop where
 S:ScAt H sd c
 LF:LaneF c g l wy da dn
 p:ms.Perm dn
 s: (↥66).Pairwise (· <= ·)
 w:yZ H c.sk wr
 t1:1<=c.ts.length
 t2:c.ts.length<=1000
 n0:0<=n
 n1:n<((jc c.rs wy).length:Int)
 y0:0<=y
theorem ByL.on {I:Addr}{l n y:Int}(B:ByL H I c g l n y G U j ms wr):jz 0 0 ms (y+jA j y-n)<=y/\(y-jz 0 0 ms (y+jA j y-n)).toNat<(jT ms (jc c.rs G) wr c.ts (y+jA j y-n)).length/\(jT ms (jc c.rs G) wr c.ts (y+jA j y-n)).length<=100:=by
 have a:y+jA j y-(y+jA j y-n)=n:=()
 have d:=(yD B.p B.s B.LF.nd B.LF.pos (y+jA j y-n) ((jc c.rs G).length:Int) y B.y0).mp (by rw [a];exact ⟨B.n0,B.n1⟩)
 have b:=ki B.p B.s B.LF.nd B.LF.pos (y+jA j y-n) ((jc c.rs G).length:Int) ()
 have e:=B.LF.g30
 rw [zH]
 right
inductive spRestL  (vs:List V) (H:Hp) (Q:VK) (z_3:XK):Prop
 | mk (sd:Addr) (c:ScN) (g:IceG) (l n y:Int) (wy:List Int) (da:Addr) (dn ms:List (Int×Int)) (wr:List (Int×T3)) (_:vs=[.ref sd,.int l,.int n,.int y]) (_:ByL H sd c g l n y wy da dn ms wr) (_:∀t H',H' t=some (.tup (resT (uY ((jT ms (jc c.rs wy) wr c.ts (y+jA dn y-n)).drop (y-jz 0 0 ms (y+jA dn y-n)).toNat))))->FrM c.D H H'->Q (.ref t) H')
theorem jY:FnScope ["_law_scene_here","_law_lane","_law_place","_law_year_here","_law_rows","_law_when","_law_spot_here","_law_more","_law_high"] ["_law_scene_here","_law_lane","_law_place","_law_year_here"] (ja xu):=by walk_at "s"
theorem wY (G:Cal P w K mg base 2 "_law_life_at" ["_law_scene_here","_law_lane","_law_place","_law_year_here"] spLifeAt)
  (F:Fun K "_law_rest_by_life" "_law_rest_by_life" xu f fd):FnOk P w K mg base CX0 3 f fd ["_law_scene_here","_law_lane","_law_place","_law_year_here"] spRestL:=by
 refine F.ok jY ↥33 (λa3 A outer s H vs Q E hr h=>?_)
 ·obtain ⟨sd,c,g,l,n,y,wy,da,J,ms,wr,rfl,_⟩:=h
  rfl
 ·obtain ⟨sd,c,g,l,n,y,wy,da,J,ms,wr,rfl,B,k⟩:=h
  obtain ⟨as,O,ap⟩:=B.on
  have D:=B.LF
  have a2:=D.g30
  have l10:=D.l10
  refine ⟨_,(j6 (js 4 jY.nd (je G (hr.mono ⋯) rfl (j0 (pv 0) (j0 (pv 1) (j0 (pv 2) (j0 (pv 3) j5))))))
   (j6 (qA bh rfl (jX K (pv 4)) (qj (n:=4) K rfl (jh (jd (i:=5) jY.nd rfl (aR rfl)) (jh (jd (i:=6) jY.nd rfl (aR rfl)) (jh (jd (i:=7) jY.nd rfl (aR rfl)) (jh (jd (i:=8) jY.nd rfl (aR rfl)) qi))))) (jb (jN (PW.pt (vm (jq QX (pv 5) (pv 3) (jw _)) (yO (jq xA (pv 8) j7 (jw _))))) (jb (jk (qx (j0 jC (j0 (pv 5) (j0 (pv 6) j5)))))) jv)))
   (jb (jk (qx (j0 jC (j0 (jr jL (jp (ql K) (jp (jg K) (pv 4) (kZ vY j7) (λ_ _=>rfl)) j7 (λ_ _=>rfl)) j7) j5))))))),?_⟩
  walk_at "r"
  refine ⟨sd,c,l,n,y,wy,da,J,ms,wr,rfl,B.S,D.l0,D.way,B.n0,B.n1,(),B.y0,D.cd,(),D.nd,(λq T=>by have:=D.b q T;right),B.p,B.s,B.w,B.t1,B.t2,λo H1 out ho U r1 f1=>?_⟩
  have hy:∀{i:Nat} {q:Q4},(jT ms (jc c.rs wy) wr c.ts (y+jA J y-n))[i]? = some q->q.1=jz 0 0 ms (y+jA J y-n)+(i:Int):=λh=>Zd h
  generalize jT ms (jc c.rs wy) wr c.ts (y+jA J y-n)=L at *
  generalize jz 0 0 ms (y+jA J y-n)=fst at *
  obtain ⟨kk,an⟩:∃kk,(y-fst).toNat=kk:=⟨_,rfl⟩
  rw [an] at k O
  have aL:L.drop kk≠[]:=λz=>by
   have:=congrArg oI z
   rw [eQ] at this
   simp at this
   right
  have am:out.length=L.length:=aP r1
  walk_at "r"
  refine ⟨⟨_,SqL.of U⟩,?_⟩
  refine yf (K:=K) (a:=o) (xs:=out) (λi σ H2=>∃x5 x6 x7 Z:Option V,σ=[some (.ref sd),some (.int l),some (.int n),some (.int y),some (.ref o),x5,x6,x7,Z]/\H2=H1/\∀(j:Nat) x,j<i->L[j]? = some x->y<=x.1->x.2.2.2≠0) ?_ ?_ ?_ ?_
  ·exact ⟨_,_,_,_,rfl,rfl,λj x C=>absurd C (eC _)⟩
  ·rintro i σ H2 hi ⟨x5,x6,x7,Z,rfl,rfl,Y⟩
   exact SqL.of U
  ·rintro i v σ H2 hv ⟨x5,x6,x7,Z,rfl,rfl,Y⟩
   obtain ⟨q,T,bq,rfl,m⟩:=Paired.get r1 hv
   have m:H2 bq=some (.tup [.int q.1,.int q.2.1,.int q.2.2.1,.int q.2.2.2]):=m
   have az:=hy T
   have ab:(y<=q.1->q.2.2.2≠0)->∀(j:Nat) x,j<i+1->L[j]? = some x->y<=x.1->x.2.2.2≠0:=λhz j x C u=>by
    by_cases e:j=i
    ·subst e
     rw [T] at u
     cases u
     exact hz
    ·exact Y j x () u
   walk_at "r"
   refine ⟨bq,_,rfl,SqT.of m,rfl,?_⟩
   refine ⟨_,_,rfl,_,_,rfl,_,_,rfl,_,_,rfl,rfl,?_⟩
   walk_at "r"
   refine qp (λz1=>?_) (λz1=>?_)
   ·walk_at "r"
    refine qp (λM=>?_) (λM=>?_)
    ·have M:q.2.2.2=0:=V.int.inj M
     walk_at "r"
     refine ⟨by show 3<=sizeLine;decide,λt H3 ht R s3=>?_⟩
     have a1:kk<=i:=()
     refine k t H3 ?_ (f1.trans (FrM.of_same s3))
     rw [uO (i-kk) (q:=q) (by rw [cD,show kk+(i-kk)=i by right];exact T) M λj x C u=>?_]
     ·exact R
     ·rw [cD] at u
      exact Y _ x () u (by rw [hy u];right)
    ·walk_at "r"
     exact ⟨_,_,_,_,rfl,rfl,ab λ_ e=>M (congrArg V.int e)⟩
   ·walk_at "r"
    exact ⟨_,_,_,_,rfl,rfl,ab λh=>absurd h z1⟩
  ·rintro σ H2 ⟨x5,x6,x7,Z,rfl,rfl,Y⟩
   rcases oz L with e | ⟨X,q,e⟩
   ·rw [e] at O
    exact absurd O (eC _)
   ·rw [oA] at e
    have d:out.length=X.length+1:=by rw [am,e,ar];rfl
    obtain ⟨N,v,ev⟩:∃N v,out=N++[v]:=by
     rcases oz out with z | ⟨N,v,z⟩
     ·rw [z] at d;cases d
     ·exact ⟨N,v,by rw [z,oA]⟩
    have al:N.length=X.length:=by rw [ev,ar] at d;exact Nat.succ.inj d
    obtain ⟨I,ac,bq,rfl,m⟩:=Paired.get r1 (i:=X.length) (x:=v) (by rw [ev,<- al,lP])
    obtain rfl:I=q:=by
     rw [e,lP] at ac
     exact (bB ac).symm
    have m:H2 bq=some (.tup [.int I.1,.int I.2.1,.int I.2.2.1,.int I.2.2.2]):=m
    walk_at "r"
    refine ⟨_,_,_,_,rfl,rfl,SqL.of (by rw [<- ev];exact U),Xj _ _,?_⟩
    walk_at "r"
    refine ⟨by show 2<=sizeLine;decide,λt H3 ht R s3=>?_⟩
    refine k t H3 ?_ (f1.trans (FrM.of_same s3))
    have a0:L.length=X.length+1:=by rw [e,ar];rfl
    rw [wa (X:=X.drop kk) (q:=I) (by rw [e,List.drop_append_of_le_length ()]) λx u=>?_]
    ·exact R
    ·obtain ⟨j,C⟩:=List.mem_iff_getElem?.mp u
     rw [cD] at C
     have:=(List.getElem?_eq_some_iff.mp C).1
     exact Y _ x () C (by rw [hy C];right)
noncomputable def WB (D:List Q4) (y:Int) (acc:List (List Int)) (p:List Int) (n:Nat):Prop :=
 ∃q,D[n]? = some q/\q.1=y/\q.2.2.2=0/\((p∈acc/\∀(i:Nat) (x:Q4),i<n->D[i]? = some x->x.2.2.2≠0)\/∃(j:Nat) (x:Q4),j<=n/\D[j]? = some x/\p=[x.1,x.2.1]/\∀(i:Nat) (z:Q4),j<=i->i<n->D[i]? = some z->z.2.2.2≠0)
theorem wd {y:Int}:∀{D:List Q4}{fst:Int}{acc:List (List Int)}{p:List Int},(∀(i:Nat) q,D[i]? = some q->q.1=fst+(i:Int))->(p∈xl y acc D↔∃n,WB D y acc p n)
 | [],fst,acc,p,h=>by
  refine ⟨λd=>?_,λ⟨n,q,c,_⟩=>?_⟩
  ·unfold xl at d
   cases d
  ·cases c
 | a::r,fst,acc,p,h=>by
  have v:a.1=fst:=by have:=h 0 a rfl;right
  have u:∀(i:Nat) q,r[i]? = some q->q.1=(fst+1)+(i:Int):=λi q c=>by have:=h (i+1) q (by rw [bL];exact c);right
  unfold xl
  by_cases e:a.1=y
  ·rw [if_pos e]
   by_cases z:a.2.2.2=0
   ·rw [if_pos z]
    refine ⟨λd=>⟨0,a,rfl,e,z,?_⟩,λ⟨n,q,c,l,k,d⟩=>?_⟩
    ·rcases List.mem_append.mp d with g | g
     ·exact .inl ⟨g,λi x hi=>absurd hi (eC _)⟩
     ·exact .inr ⟨0,a,ak _,rfl,List.mem_singleton.mp g,λi x _ hi=>absurd hi (eC _)⟩
    ·have o:n=0:=by have:=h n q c;right
     subst o
     rcases d with ⟨g,_⟩ | ⟨j,x,s,b,g,_⟩
     ·exact cc _ g
     ·obtain rfl:j=0:=()
      cases b
      exact aJ _ (List.mem_singleton.mpr g)
   ·rw [if_neg z]
    refine ⟨λd=>(by cases d),λ⟨n,q,c,l,k,d⟩=>?_⟩
    have o:n=0:=by have:=h n q c;right
    subst o
    cases c
    exact absurd k z
  ·rw [if_neg e,wd u]
   refine ⟨λ⟨n,q,c,l,k,d⟩=>⟨n+1,q,by rw [bL];exact c,l,k,?_⟩,λ⟨n,q,c,l,k,d⟩=>?_⟩
   ·rcases d with ⟨g,f⟩ | ⟨j,x,s,b,g,f⟩
    ·by_cases z:a.2.2.2=0
     ·rw [if_pos z] at g
      cases g
     ·rw [if_neg z] at g
      have t:∀(i:Nat) (x:Q4),i<n+1->(a::r)[i]? = some x->x.2.2.2≠0:=λi x hi b=>by
       cases i with
       | zero=>cases b;exact z
       | succ i=>exact f i x () (by rw [bL] at b;exact b)
      rcases List.mem_append.mp g with g | g
      ·exact .inl ⟨g,t⟩
      ·exact .inr ⟨0,a,aB _,rfl,List.mem_singleton.mp g,λi x _=>t i x⟩
    ·refine .inr ⟨j+1,x,(),by rw [bL];exact b,g,λi w h1 h2 m=>?_⟩
     cases i with
     | zero=>right
     | succ i=>exact f i w () () (by rw [bL] at m;exact m)
   ·cases n with
    | zero =>
     cases c
     exact absurd l e
    | succ n =>
     rw [bL] at c
     refine ⟨n,q,c,l,k,?_⟩
     rcases d with ⟨g,f⟩ | ⟨j,x,s,b,g,f⟩
     ·have z:=f 0 a () rfl
      rw [if_neg z]
      exact .inl ⟨cc _ g,λi x hi b=>f (i+1) x () (by rw [bL];exact b)⟩
     ·cases j with
      | zero =>
       have z:=f 0 a (ak _) () rfl
       cases b
       rw [if_neg z]
       exact .inl ⟨aJ _ (List.mem_singleton.mpr g),λi x hi b=>f (i+1) x () () (by rw [bL];exact b)⟩
      | succ j =>
       rw [bL] at b
       exact .inr ⟨j,x,(),b,g,λi w h1 h2 m=>f (i+1) w () () (by rw [bL];exact m)⟩
theorem wc {D:List Q4}{y s:Int}:uY D = .left y s↔∃(n:Nat) (q:Q4),D[n]? = some q/\q.1=y/\q.2.1=s/\q.2.2.2=0/\∀(i:Nat) (x:Q4),i<n->D[i]? = some x->x.2.2.2≠0:=by
 by_cases k:D=[]
 ·subst k
  exact ⟨λh=>(by unfold uY at h;cases h),λ⟨n,q,a,_⟩=>(by cases a)⟩
 ·skip
  refine ⟨λh=>?_,λ⟨n,q,a,h1,h2,t,r⟩=>?_⟩
  ·by_cases z:∃(n:Nat) (q:Q4),D[n]? = some q/\q.2.2.2=0
   ·obtain ⟨m,⟨q,a,f⟩,p⟩:∃m:Nat,(∃q:Q4,D[m]? = some q/\q.2.2.2=0)/\∀i:Nat,i<m->¬ ∃q:Q4,D[i]? = some q/\q.2.2.2=0:=by
     obtain ⟨n,o⟩:=z
     induction n using Nat.strongRecOn with
     | ind n l =>
      by_cases g:∃i:Nat,i<n/\∃q:Q4,D[i]? = some q/\q.2.2.2=0
      ·obtain ⟨i,hi,d⟩:=g
       exact l i hi d
      ·exact ⟨n,o,λi hi d=>g ⟨i,hi,d⟩⟩
    have j:∀(i:Nat) (x:Q4),i<m->D[i]? = some x->x.2.2.2≠0:=λi x hi c b=>p i hi ⟨x,c,b⟩
    rw [uO m a f j] at h
    cases h
    exact ⟨m,q,a,rfl,rfl,f,j⟩
   ·obtain ⟨X,q,e⟩:∃X q,D=X++[q]:=⟨_,_,(List.dropLast_concat_getLast k).symm⟩
    rw [wa e λx c b=>by
     obtain ⟨i,hi⟩:=List.mem_iff_getElem?.mp c
     exact z ⟨i,x,hi,b⟩] at h
    cases h
  ·rw [uO n a t r,h1,h2]
noncomputable abbrev Clf:=Int×Int×Str
noncomputable abbrev clT (c:Clf):HO:=.tup [.int c.1,.int c.2.1,.str c.2.2]
noncomputable def xK (H:Hp) (vs:List V) (cs:List Clf):Prop:=cW (λv (c:Clf)=>∃b,v=V.ref b/\H b=some (clT c)) vs cs
theorem xK.keep (h:xK H vs cs) (t:jn H H'):xK H' vs cs:=Paired.mapP h λ_ _ ⟨b,e,q⟩=>⟨b,e,t _ _ q⟩
noncomputable def US (l:Int) (r:Str) (c:Clf):Bool:=decide (c.1=l/\c.2.2=r)
noncomputable def qL (l:Int) (r:Str) (cs:List Clf):List Int:=(cs.filter (US l r)).map (·.2.1)
noncomputable def inP (ps:List Int) (r:List Int):Bool:=decide (r.getD 1 0∈ps)
noncomputable def wG (ms:List (Int×Int)) (gd:List Int) (wr:List (Int×T3)) (ts:List T3) (n:Int) (ps:List Int) (y:Int):List (List Int):=(xl y [] (jT ms gd wr ts (y+jA ms y-n))).filter (inP ps)
noncomputable def qT (ms:List (Int×Int)) (gd:List Int) (wr:List (Int×T3)) (ts:List T3) (n:Int) (ps:List Int) (a:Int) (k:Nat):List (List Int):=(aW k).flatMap λi:Nat=>wG ms gd wr ts n ps (a+(i:Int))
theorem zM (ms:List (Int×Int)) (gd:List Int) (wr:List (Int×T3)) (ts:List T3) (n:Int) (ps:List Int) (a:Int) (k:Nat):qT ms gd wr ts n ps a (k+1)=qT ms gd wr ts n ps a k++wG ms gd wr ts n ps (a+(k:Int)):=by
 unfold qT
 rw [dg,pC,nX]
theorem Jq (ms:List (Int×Int)) (gd:List Int) (wr:List (Int×T3)) (ts:List T3) (n:Int) (ps:List Int) (a:Int):∀{k K:Nat},k<=K->(qT ms gd wr ts n ps a k).length<=(qT ms gd wr ts n ps a K).length:=λ{k K} h=>by
 induction h with
 | refl=>exact ak _
 | step _ b =>
  rw [zM,ar]
  right
theorem wu {y:Int}:∀{D:List Q4}{acc:List (List Int)},(∀r∈acc,∃a b,r=[a,b])->∀r∈xl y acc D,∃a b,r=[a,b]
 | [],acc,_,r,c=>by unfold xl at c;cases c
 | q::D,acc,h,r,c=>by
  have h':∀r∈acc++[[q.1,q.2.1]],∃a b,r=[a,b]:=λr c=>by
   rcases List.mem_append.mp c with g | g
   ·exact h r g
   ·exact ⟨_,_,List.mem_singleton.mp g⟩
  unfold xl at c
  split at c
  ·split at c
   ·exact h' r c
   ·cases c
  ·refine wu ?_ r c
   split
   ·exact λr c=>(by cases c)
   ·exact h'
theorem Jk {vs:List V}{ws:List (List Int)}(h:jU H vs ws):∀G:List Nat,(∀i∈G,i<vs.length)->jU H (G.map λi=>vs.getD i V.non) (G.map λi=>ws.getD i [])
 | [],_=>.nil
 | i::G,b=>by
  refine .cons ?_ (Jk h G λj c=>b j (aK _ c))
  have hi:=b i aM
  obtain ⟨y,f,g,a,e,d⟩:=Paired.get h (ae hi)
  show ws.getD i []≠[]/\∃a,vs.getD i V.non=V.ref a/\H a=some (HO.tup ((ws.getD i []).map V.int))
  rw [ao (l:=ws),f]
  refine ⟨g,a,?_,d⟩
  rw [ao,ae hi];exact e
theorem Y7 {vs out:List V}{j:List (List Int)}(G:jU H vs j) (k:jn H H') (I:yj y4 (λi=>j.getD i []) vs out):∃rows',jU H' out rows'/\rows'.Perm j/\mK y4.kle rows':=by
 obtain ⟨a,c,e,b⟩:=I
 have d:∀i∈a,i<vs.length:=λi hi=>by have:=c.mem_iff.mp hi;simpa using this
 refine ⟨a.map λi=>j.getD i [],by rw [e];exact jU.keep (Jk G a d) k,?_,b⟩
 have:=c.map λi=>j.getD i []
 rw [aP G,gv] at this
 exact this
structure RidF (ns ms:List (Int×Int)):Prop where
 p:ms.Perm ns
 s: (↥66).Pairwise (· <= ·)
 nd: (↥85).Nodup
 pos:∀q∈ns,0<=q.1/\0<=q.2
section
variable {ns ms:List (Int×Int)}{gd:List Int}{wr:List (Int×T3)}{ts:List T3}{m:Int}
theorem zJ {i:Nat}(h:(jT ms gd wr ts m)[i]? = some q):q.1=jz 0 0 ms m+(i:Int)/\q.2.1=plc ms m q.1:=by
 have hi:=(List.getElem?_eq_some_iff.mp h).1
 rw [zH] at hi
 rw [vU hi] at h
 cases h
 exact ⟨rfl,rfl⟩
theorem RidF.len (R:RidF ns ms):(jT ms gd wr ts m).length<=gd.length:=by
 rw [zH]
 by_cases h:jz 0 0 ms m<jz 0 0 ms (m+ ↥58)
 ·have:=ki R.p R.s R.nd R.pos m ↥58 h
  right
 ·right
end
theorem gh {α β:Type}{R:α->β->Prop}:∀{xs zs:List α}{ys us:List β},cW R xs ys->cW R zs us->cW R (xs++zs) (ys++us)
 | _,_,_,_,.nil,h=>h
 | _,_,_,_,.cons a t,h=>.cons a (gh t h)
inductive spFalls (C CN:Addr) (vs:List V) (H:Hp) (Q:VK) (z_3:XK):Prop
 | mk (p cl fd:Addr) (g:IceG) (cvs:List V) (cs:List Clf) (l n a z:Int) (r:Str) (sk:List (Int×Addr)) (wr:List (Int×T3)) (ns ms:List (Int×Int)) (_:vs=[.ref p,.ref cl,.ref fd]) (_:IceAt C H p g) (_:g.lds.length=g.slopes.length) (_:g.kvs=sk.map kvA) (_:yZ H sk wr) (_:1<=g.rows.length) (_:g.rows.length<=1000) (_:H cl=some (.lst cvs)) (_:xK H cvs cs) (_:cs.length<=100) (_:H fd=some ↥104) (_:0<=l) (_:l< ↥16) (_:0<=a) (_:a<=z+1) (_:z<=1000) (_:Ui g l ns) (_:(∀q∈ns,0<=q.1)) (_: (↥21).length<=100) (_:ms.Perm ns) (_: (↥66).Pairwise (· <= ·)) (_:(qT ms ↥21 wr g.rows n (qL l r cs) a (z+1-a).toNat).length<128) (_:∀o H' out rows,H o=none->H' o=some (.lst out)->jU H' out rows->rows.Perm (qT ms ↥21 wr g.rows n (qL l r cs) a (z+1-a).toNat)->mK y4.kle rows->jo H H'->Q (.ref o) H')
theorem jO:FnScope ["ice","cliffs","find","lane","place","first","last","rock","places","surges","falls","year","rows"] ["ice","cliffs","find"] (ja zo):=by walk_at "s"
theorem Qc (nb:Nb2 mg) (cl_Ice:Cls K C) (c_Ice__surges:CalMX P w K mg base 2 C "surges" ["self","lane"] (spSurgesI C CN)) (c_ride_by:Cal P w K mg base 1 "ride_by" ["surges","year"] spRideBy) (c_life:CalX P w K mg base 4 "life" ["ice","lane","mark"] (spLife C CN)) (c_left_in:Cal P w K mg base 1 "left_in" ["rows","year"] spLeft)
  (F:Fun K "falls_for" "falls_for" zo f fd):FnOk P w K mg base CX0 5 f fd ["ice","cliffs","find"] (spFalls C CN):=by
 refine F.ok jO ↥33 (λcdv A outer s H vs Q E hr h=>?_)
 ·obtain ⟨p,cl,fd,g,cvs,cs,l,n,a,z,r,sk,wr,ns,ms,rfl,_⟩:=h
  rfl
 ·obtain ⟨p,cl,fd,g,cvs,cs,l,n,a,z,r,sk,wr,ns,ms,rfl,I,hll,ek,hw,hr1,hr2,hcl,hcs,c100,hfd,l0,l1,a0,az,z1,hL,hp0,g100,hp,hs,h128,k⟩:=h
  have hlen:cvs.length=cs.length:=aP hcs
  obtain ⟨_,_,⟨la,ha⟩,nd,h64,h9⟩:=hL
  have hL:Ui g l ns:=⟨l0,l1,⟨la,ha⟩,nd,h64,h9⟩
  have h9m:∀q∈ms,0<=q.2/\q.2<=9:=λq hq=>h9 q (hp.mem_iff.mp hq)
  have hlm:ms.length<64:=by rw [hp.length_eq];exact h64
  refine ⟨_,(j6 (xO (pv 2) (qj (n:=5) K rfl (jh (jd (i:=3) jO.nd rfl (lr rfl)) (jh (jd (i:=4) jO.nd rfl (aR rfl)) (jh (jd (i:=5) jO.nd rfl (aR rfl)) (jh (jd (i:=6) jO.nd rfl (aR rfl)) (jh (jd (i:=7) jO.nd rfl (lr rfl)) qi)))))))
   (j6 (uc (i:=8) jO.nd rfl (lr rfl) (qc (osc:=(ja zo)) (ON:=["ice","cliffs","find","lane","place","first","last","rock","places","surges","falls","year","rows"]) (N:=["which","where","kind","lane","rock"]) (own:=3) (caps:=[3,7]) ⟨rfl,∅,∅,∅,rfl,∅⟩ rfl rfl rfl (jX K (pv 1)) (λ_ _ _ _ _=>(qj (n:=3) K rfl (jh (jd (i:=0) (show bp ↥140 by decide +kernel) rfl (aR rfl)) (jh (jd (i:=1) (show bp ↥140 by decide +kernel) rfl (aR rfl)) (jh (jd (i:=2) (show bp ↥140 by decide +kernel) rfl (aR rfl)) qi))))) (λ_ _ _ _ _=>(yk (PW.pt (vm (jq xA (pv 0) (pv 3) (jw _)) (yO (jq xA (pv 2) (pv 4) (jw _))))))) (λ_ _ _ _ _=>(pv 1))))
   (j6 (js 9 jO.nd (yS (pv 0) cl_Ice c_Ice__surges (hr.mono ⋯) kX (j0 (pv 3) j5)))
   (j6 (js 10 jO.nd (jB j5))
   (j6 (qA bh rfl (wD rfl nb.b_range (j0 (pv 5) (j0 (jr jL (pv 6) j7) j5))) (jd (i:=11) jO.nd rfl (aR rfl)) (j6 (js 12 jO.nd (je c_life.cal (hr.mono ⋯) rfl (j0 (pv 0) (j0 (pv 3) (j0 (jr qO (je c_ride_by (hr.mono ⋯) rfl (j0 (pv 9) (j0 (pv 11) j5))) (pv 4)) j5)))))
   (jb (JZ (i:=10) jO.nd rfl (aR rfl) (qc (osc:=(ja zo)) (ON:=["ice","cliffs","find","lane","place","first","last","rock","places","surges","falls","year","rows"]) (N:=["fall","places"]) (own:=1) (caps:=[8]) ⟨rfl,∅,∅,∅,rfl,∅⟩ rfl rfl rfl (jX K (je c_left_in (hr.mono ⋯) rfl (j0 (pv 12) (j0 (pv 11) j5)))) (λ_ _ _ _ _=>(jd (i:=0) (show bp (["fall","places"]:List Str) by decide +kernel) rfl (aR rfl))) (λ_ _ _ _ _=>(yk (jq (kA K) ↥99 (pv 1) ↥60))) (λ_ _ _ _ _=>(pv 0))) Uu))))
   (jb (jk (jf (vQ K rfl) rfl nb.b_sorted mn (j0 (pv 10) j5))))))))),?_⟩
  walk_at "r"
  refine ⟨fd,_,rfl,SqT.of hfd,rfl,?_⟩
  refine ⟨_,_,rfl,_,_,rfl,_,_,rfl,_,_,rfl,_,_,rfl,rfl,?_⟩
  walk_at "r"
  refine ⟨⟨_,SqL.of hcl⟩,λpl hpl=>?_⟩
  refine qv (K:=K) (a:=cl) (xs:=cvs) (acc:=pl) (λi σ H2=>∃x0 x1 x2:Option V,σ=[x0,x1,x2,some (.int l),some (.str r)]/\H2 pl=some (.lst ((qL l r (cs.take i)).map V.int))/\Ext pl H H2) ?_ ?_ ?_ ?_
  ·exact ⟨none,none,none,rfl,j9,Ext.put⟩
  ·rintro i σ H2 hi ⟨x0,x1,x2,rfl,h2,e2⟩
   exact SqL.of (e2 _ _ hcl (j4 hcl hpl))
  ·rintro i v σ H2 hv ⟨x0,x1,x2,rfl,h2,e2⟩
   obtain ⟨x,hx,b,rfl,hb⟩:=Paired.get hcs hv
   have hi:=(List.getElem?_eq_some_iff.mp hx).1
   have hl2:((qL l r (cs.take i)).map V.int).length<=100:=by
    rw [ag]
    unfold qL
    rw [ag]
    exact aN (bU _ _) (by rw [aY];right)
   have no:¬(x.1=l/\x.2.2=r)->H2 pl=some (.lst ((qL l r (cs.take (i+1))).map V.int)):=λz=>by
    unfold qL
    rw [bJ,hx,cn,bK,cB (by unfold US;rw [decide_eq_false z];exact aq),fD,bj]
    exact h2
   walk_at "r"
   refine ⟨b,_,rfl,SqT.of (e2 _ _ hb (j4 hb hpl)),rfl,?_⟩
   refine ⟨_,_,rfl,_,_,rfl,_,_,rfl,rfl,?_⟩
   walk_at "r"
   refine qp (λz1=>?_) (λz1=>?_)
   ·walk_at "r"
    refine qp (λz2=>?_) (λz2=>?_)
    ·walk_at "r"
     refine ⟨_,h2,c5 hl2 ⋯,_,_,_,rfl,?_,e2.trans Ext.put⟩
     unfold qL
     rw [j9,bJ,hx,cn,bK,cC (by unfold US;exact decide_eq_true ⟨V.int.inj z1,V.str.inj z2⟩),aD,aD]
     rfl
    ·exact ⟨_,_,_,rfl,no λe=>z2 (congrArg V.str e.2),e2⟩
   ·exact ⟨_,_,_,rfl,no λe=>z1 (congrArg V.int e.1),e2⟩
  rintro σ H2 ⟨x0,x1,x2,rfl,h2,e2⟩
  rw [hlen,bg] at h2
  have s2:jo H H2:=λc o hc=>e2 c o hc (j4 hc hpl)
  walk_at "r"
  refine ⟨p,g.dx,_,rfl,s2 _ _ I.ob,qY ∅,?_⟩
  walk_at "r"
  refine ⟨p,g,l,rfl,I.same s2,hll,(λhb=>absurd hb ()),λ_ _=>⟨la,ns,ha,nd,h64,λso H3 out ms2 hso hso3 hq3 s3 hp2 hs2=>?_⟩⟩
  obtain rfl:=y8 nd hp hs hp2 hs2
  walk_at "r"
  refine ⟨aB _,λfa H4 hfa hfa4 s4=>?_⟩
  have S3:jo H H3:=s2.trans s3
  have hpl3:=s3 _ _ h2
  walk_at "r"
  refine ⟨_,_,rfl,⟨(),(),(),()⟩,?_⟩
  have R:RidF ns ms2:=⟨hp,hs,nd,λq hq=>⟨hp0 q hq,(h9 q hq).1⟩⟩
  generalize hgd:g.slopes.getD l.toNat []=gd at *
  refine qI (λi σ H5=>∃(x11 x12:Option V) (os:List V),σ=[some (.ref p),some (.ref cl),some (.ref fd),some (.int l),some (.int n),some (.int a),some (.int z),some (.str r),some (.ref pl),some (.ref so),some (.ref fa),x11,x12]/\H5 fa=some (.lst os)/\jU H5 os (qT ms2 gd wr g.rows n (qL l r cs) a i)/\jo H3 H5) ?_ ?_ ?_
  ·exact ⟨none,none,[],rfl,hfa4,.nil,s4⟩
  ·rintro i σ H5 hi ⟨x11,x12,os,rfl,h5,r5,s5⟩
   have S5:=S3.trans s5
   have hol:os.length=(qT ms2 gd wr g.rows n (qL l r cs) a i).length:=aP r5
   have hle:=Jq ms2 gd wr g.rows n (qL l r cs) a (ff hi)
   have hL7:=R.len (gd:=gd) (wr:=wr) (ts:=g.rows) (m:=a+(i:Int)+jA ms2 (a+(i:Int))-n)
   walk_at "r"
   refine ⟨so,out,ms2,a+(i:Int),rfl,s5 _ _ hso3,wN.same hq3 s5,(),h9m,λH6 s6=>?_⟩
   have S6:=S5.trans s6
   walk_at "r"
   refine ⟨p,g,l,_,sk,wr,rfl,I.same S6,hll,ek,hw.keep (jn.same S6),hr1,hr2,(λH' _ hb=>absurd hb ()),λ_ _=>⟨ns,ms2,hL,hp0,by rw [hgd];exact g100,hp,hs,λo H7 out7 ho ho7 r7 s7=>?_⟩⟩
   rw [hgd] at r7
   walk_at "r"
   refine ⟨o,_,out7,_,rfl,ho7,r7,(),λlf H8 ls hlf hlf8 r8 s8=>?_⟩
   have two:=wu (y:=a+(i:Int)) (D:=jT ms2 gd wr g.rows (a+(i:Int)+jA ms2 (a+(i:Int))-n)) (acc:=[]) (λr hr=>by cases hr)
   have eY:wG ms2 gd wr g.rows n (qL l r cs) (a+(i:Int))=(xl (a+(i:Int)) [] (jT ms2 gd wr g.rows (a+(i:Int)+jA ms2 (a+(i:Int))-n))).filter (inP (qL l r cs)):=rfl
   have hle2:=Jq ms2 gd wr g.rows n (qL l r cs) a (show i+1<=(z+1-a).toNat from hi)
   rw [zM,eY,ar] at hle2
   generalize xl (a+(i:Int)) [] (jT ms2 gd wr g.rows (a+(i:Int)+jA ms2 (a+(i:Int))-n))=R8 at *
   have hls:ls.length=R8.length:=aP r8
   have s58:jo H5 H8:=(s6.trans s7).trans s8
   have hpl8:H8 pl=some (.lst ((qL l r cs).map V.int)):=s58 _ _ (s5 _ _ hpl3)
   walk_at "r"
   refine ⟨⟨_,SqL.of hlf8⟩,λacc hacc=>?_⟩
   refine qv (K:=K) (a:=lf) (xs:=ls) (acc:=acc) (λj σ H9=>∃(x0:Option V) (us:List V),σ=[x0,some (.ref pl)]/\H9 acc=some (.lst us)/\jU H9 us ((R8.take j).filter (inP (qL l r cs)))/\Ext acc H8 H9) ?_ ?_ ?_ ?_
   ·exact ⟨none,[],rfl,j9,.nil,Ext.put⟩
   ·rintro j σ H9 hj ⟨x0,us,rfl,h9,r9,e9⟩
    exact SqL.of (e9 _ _ hlf8 (j4 hlf8 hacc))
   ·rintro j v σ H9 hv ⟨x0,us,rfl,h9,r9,e9⟩
    obtain ⟨x,hx,_,b,rfl,hb⟩:=Paired.get r8 hv
    obtain ⟨xw,xp,rfl⟩:=two x (aC hx)
    have hb9:H9 b=some (.tup [.int xw,.int xp]):=e9 _ _ hb (j4 hb hacc)
    have hul:us.length<=1000:=by
     have h1:=aP r9
     have h2:((R8.take j).filter (inP (qL l r cs))).length<=(R8.filter (inP (qL l r cs))).length:=((ml j R8).filter _).length_le
     right
    walk_at "r"
    refine ⟨pl,_,rfl,.inl (SqL.of (e9 _ _ hpl8 (j4 hpl8 hacc))),rfl,yi _,?_⟩
    walk_at "r"
    rw [v0]
    refine qp (λz1=>?_) (λz1=>?_)
    ·walk_at "r"
     refine ⟨_,h9,jj hul,_,_,rfl,j9,?_,e9.trans Ext.put⟩
     rw [bJ,hx,cn,bK,cC (by exact decide_eq_true z1),fD]
     exact cE (jU.keep r9 λc xs q=>by rw [j8 (jm q h9 ↥3)];exact q) ⟨↥3,b,rfl,by rw [j8 (jm hb9 h9 ↥3)];exact hb9⟩
    ·refine ⟨_,us,rfl,h9,?_,e9⟩
     rw [bJ,hx,cn,bK,cB (by unfold inP;rw [decide_eq_false (by exact z1)];exact aq),fD,bj]
     exact r9
   ·rintro σ H9 ⟨x0,us,rfl,h9,r9,e9⟩
    rw [hls,bg] at r9
    have hul:=aP r9
    have s89:jo H8 H9:=λc o hc=>e9 c o hc (j4 hc hacc)
    have hfa9:=s89 _ _ (s58 _ _ h5)
    walk_at "r"
    refine ⟨fa,acc,os,us,rfl,rfl,hfa9,h9,by have:os.length+us.length<=1000:=();exact aN this ⋯,?_⟩
    have kp:jn H9 (upd H9 fa (.lst (os++us))):=λc xs q=>by rw [j8 (jm q hfa9 ↥3)];exact q
    refine ⟨_,_,os++us,rfl,j9,?_,λc o hc=>by rw [j8 (j4 hc hfa)];exact s89 _ _ (s58 _ _ (s5 _ _ hc))⟩
    rw [zM,eY]
    exact gh (jU.keep (jU.keep r5 (jn.same (s58.trans s89))) kp) (jU.keep r9 kp)
  ·rintro σ H5 ⟨x11,x12,os,rfl,h5,r5,s5⟩
   have hol:=aP r5
   walk_at "r"
   refine ⟨fa,os,_,rfl,SqL.of h5,(),r5,λo H6 out6 ho ho6 s6 hso6=>?_⟩
   obtain ⟨rows,q1,q2,q3⟩:=Y7 r5 (jn.same s6) hso6
   exact k o H6 out6 rows ((S3.trans s5).free ho) ho6 q1 q2 q3 ((S3.trans s5).trans s6)
section
variable {ns ms:List (Int×Int)}{gd:List Int}{wr:List (Int×T3)}{ts:List T3}{m y w p n a z:Int}{ps:List Int}
noncomputable def zx (ms:List (Int×Int)) (gd:List Int) (wr:List (Int×T3)) (ts:List T3) (w p:Int):ResD:=uY ((jT ms gd wr ts (w+jA ms w-p)).drop (w-jz 0 0 ms (w+jA ms w-p)).toNat)
theorem wj (R:RidF ns ms) (h:[w,p]∈xl y [] (jT ms gd wr ts (y+jA ms y-n))):zx ms gd wr ts w p = .left y n/\0<=w/\w<=y/\y<w+ ↥58:=by
 obtain ⟨m,l⟩:∃m,y+jA ms y-n=m:=⟨_,rfl⟩
 rw [l] at h
 obtain ⟨N,q,b,f,g,c⟩:=(wd (fst:=jz 0 0 ms m) λi q h=>(zJ h).1).mp h
 rcases c with ⟨c,_⟩ | ⟨j,x,C,a,e,k⟩
 ·cases c
 ·injection e with t d
  injection d with d _
  have A:=zJ a
  have B:=zJ b
  have E:=zc R.p R.s R.pos m
  have D:=(List.getElem?_eq_some_iff.mp b).1
  have z:=R.len (gd:=gd) (wr:=wr) (ts:=ts) (m:=m)
  rw [<- t,<- d] at A
  rw [f] at B
  have v:=A.2
  have u:=B.2
  unfold plc at v u
  have o:w+jA ms w-p=m:=()
  have r:(w-jz 0 0 ms m).toNat=j:=()
  refine ⟨?_,(),(),()⟩
  unfold zx
  rw [o,r]
  refine wc.mpr ⟨N-j,q,by rw [cD,show j+(N-j)=N by right];exact b,f,(),g,λi x hi a=>?_⟩
  rw [cD] at a
  exact k (j+i) x () () a
theorem YB (R:RidF ns ms) (G:0<=w) (U:0<=p) (I:p< ↥58) (h:zx ms gd wr ts w p = .left y n):[w,p]∈xl y [] (jT ms gd wr ts (y+jA ms y-n)):=by
 unfold zx at h
 obtain ⟨m,g⟩:∃m,w+jA ms w-p=m:=⟨_,rfl⟩
 rw [g] at h
 have on:=(yD R.p R.s R.nd R.pos m ↥58 w G).mp (by rw [<- xv R.p];right)
 obtain ⟨j,o⟩:∃j,(w-jz 0 0 ms m).toNat=j:=⟨_,rfl⟩
 rw [o] at h
 obtain ⟨N,q,b,d,t,f,l⟩:=wc.mp h
 rw [cD] at b
 have B:=zJ b
 rw [d] at B
 have r:=B.2
 unfold plc at r
 rw [show y+jA ms y-n=m by right]
 have k:j< (↥147).toNat:=()
 have a:=vU (ms:=ms) (gd:=gd) (wr:=wr) (ts:=ts) (m:=m) k
 have A:=zJ a
 have c:=A.2
 unfold plc at c
 refine (wd (fst:=jz 0 0 ms m) λi q h=>(zJ h).1).mpr ⟨j+N,q,b,d,f,.inr ⟨j,_,(),a,?_,λi x hi u a=>?_⟩⟩
 ·have e:jz 0 0 ms m+(j:Int)=w:=()
  rw [A.1,e] at c
  rw [A.1,c,e]
  rw [show w+jA ms w-m=p by right]
 ·exact l (i-j) x () (by rw [cD,show j+(i-j)=i by right];exact a)
noncomputable abbrev k1 (r:List Int):Int:=r.getD 1 0
theorem gJ {y:Int}:∀{D:List Q4}{acc:List (List Int)},acc.Pairwise (λr s=>k1 r<k1 s)->(∀r∈acc,∀q∈D,k1 r<q.2.1)->D.Pairwise (λa b=>a.2.1<b.2.1)->(xl y acc D).Pairwise λr s=>k1 r<k1 s
 | [],acc,_,_,_=>by unfold xl;exact .nil
 | q::D,acc,h1,h2,i=>by
  obtain ⟨h,f⟩:=List.pairwise_cons.mp i
  have e:(acc++[[q.1,q.2.1]]).Pairwise λr s=>k1 r<k1 s:=List.pairwise_append.mpr ⟨h1,dw _ _,λr c s d=>by
   rw [List.mem_singleton.mp d]
   exact h2 r c q (aM ..)⟩
  unfold xl
  split
  ·split
   ·exact e
   ·exact .nil
  ·split
   ·exact gJ .nil (λr c=>by cases c) f
   ·refine gJ e (λr c s d=>?_) f
    rcases List.mem_append.mp c with g | g
    ·exact h2 r g s (aK _ d)
    ·rw [List.mem_singleton.mp g]
     exact h s d
theorem RidF.up (R:RidF ns ms):(jT ms gd wr ts m).Pairwise λa b=>a.2.1<b.2.1:=by
 unfold jT uP
 rw [mC]
 refine List.pairwise_lt_range.imp λ{i j} h=>?_
 show plc ms m _<plc ms m _
 unfold plc
 have:=gL (ns:=ms) (λq c=>(R.pos q (R.p.mem_iff.mp c)).2) (y:=jz 0 0 ms m+(i:Int)) (z:=jz 0 0 ms m+(j:Int)) ()
 right
theorem RidF.year (R:RidF ns ms):(wG ms gd wr ts n ps y).Pairwise λr s=>k1 r<k1 s:=(gJ .nil (λr a=>by cases a) R.up).filter _
theorem RidF.yearN (R:RidF ns ms):(wG ms gd wr ts n ps y).Nodup:=R.year.imp λh e=>by rw [e] at h;right
theorem RidF.yearL (R:RidF ns ms):(wG ms gd wr ts n ps y).length<=ps.length:=by
 rw [<- ag (f:=k1)]
 refine List.Nodup.length_le_of_subset (List.pairwise_map.mpr (R.year.imp λh e=>by rw [e] at h;right)) λx a=>?_
 obtain ⟨r,b,rfl⟩:=List.mem_map.mp a
 exact of_decide_eq_true (List.mem_filter.mp b).2
theorem RidF.fallsL (R:RidF ns ms):∀k:Nat,(qT ms gd wr ts n ps a k).length<=k*ps.length
 | 0=>aB _
 | k+1=>by
  rw [zM,ar,Nat.succ_mul]
  have:=R.fallsL k
  have:=R.yearL (gd:=gd) (wr:=wr) (ts:=ts) (n:=n) (ps:=ps) (y:=a+(k:Int))
  right
theorem uF {r:List Int}(h:r∈wG ms gd wr ts n ps y):∃w p,r=[w,p]/\p∈ps/\[w,p]∈xl y [] (jT ms gd wr ts (y+jA ms y-n)):=by
 obtain ⟨h1,h2⟩:=List.mem_filter.mp h
 obtain ⟨w,p,rfl⟩:=wu (λr a=>by cases a) r h1
 exact ⟨w,p,rfl,of_decide_eq_true h2,h1⟩
theorem JH {r:List Int}{k:Nat}:r∈qT ms gd wr ts n ps a k↔∃i:Nat,i<k/\r∈wG ms gd wr ts n ps (a+(i:Int)):=by
 unfold qT
 rw [sF]
 exact ⟨λ⟨i,h1,h2⟩=>⟨i,List.mem_range.mp h1,h2⟩,λ⟨i,h1,h2⟩=>⟨i,List.mem_range.mpr h1,h2⟩⟩
theorem RidF.fallsN (R:RidF ns ms) (k:Nat):(qT ms gd wr ts n ps a k).Nodup:=by
 unfold qT bp
 rw [oB]
 refine ⟨λi _=>R.yearN,List.pairwise_lt_range.imp λ{i j} h r f s d e=>?_⟩
 obtain ⟨w,p,rfl,_,h1⟩:=uF f
 obtain ⟨l,m,c,_,h2⟩:=uF d
 rw [<- e] at c
 injection c with g b
 injection b with b _
 rw [<- g,<- b] at h2
 have A:=(wj R h1).1
 rw [(wj R h2).1] at A
 injection A with A _
 right
noncomputable def VM (n a z:Int):ResD->Bool
 | .left y s=>decide (s=n/\a<=y/\y<=z)
 | .off _=>false
theorem Xe {n a z:Int}:VM n a z d=true↔∃y,d = .left y n/\a<=y/\y<=z:=by
 cases d with
 | left y s =>
  refine ⟨λh=>?_,λ⟨c,e,h1,h2⟩=>?_⟩
  ·obtain ⟨e,h⟩:=of_decide_eq_true h
   exact ⟨y,by rw [e],h⟩
  ·injection e with f b
   exact decide_eq_true ⟨b,(),()⟩
 | off y=>exact ⟨λh=>(by cases h),λ⟨_,e,_⟩=>(by cases e)⟩
noncomputable def yearL (ms:List (Int×Int)) (gd:List Int) (wr:List (Int×T3)) (ts:List T3) (n a z:Int) (ps:List Int) (w:Int):List (List Int):=(ps.filter λp=>VM n a z (zx ms gd wr ts w p)).map λp=>[w,p]
noncomputable def w9 (ms:List (Int×Int)) (gd:List Int) (wr:List (Int×T3)) (ts:List T3) (n a z:Int) (ps:List Int) (b:Int) (k:Nat):List (List Int):=(aW k).flatMap λi:Nat=>yearL ms gd wr ts n a z ps (b+(i:Int))
theorem YF {b:Int}{k:Nat}:w9 ms gd wr ts n a z ps b (k+1)=w9 ms gd wr ts n a z ps b k++yearL ms gd wr ts n a z ps (b+(k:Int)):=by
 unfold w9
 rw [dg,pC,nX]
theorem uw {r:List Int}:r∈yearL ms gd wr ts n a z ps w↔∃p,r=[w,p]/\p∈ps/\∃y,zx ms gd wr ts w p = .left y n/\a<=y/\y<=z:=by
 unfold yearL
 rw [List.mem_map]
 refine ⟨λ⟨p,h,e⟩=>?_,λ⟨p,e,h1,h2⟩=>⟨p,List.mem_filter.mpr ⟨h1,Xe.mpr h2⟩,e.symm⟩⟩
 obtain ⟨h1,h2⟩:=List.mem_filter.mp h
 exact ⟨p,e.symm,h1,Xe.mp h2⟩
theorem lawN (G:ps.Nodup) (b:Int) (k:Nat):(w9 ms gd wr ts n a z ps b k).Nodup:=by
 unfold w9 bp
 rw [oB]
 refine ⟨λi _=>?_,List.pairwise_lt_range.imp λ{i j} g r f s d e=>?_⟩
 ·unfold yearL
  rw [mC]
  refine (G.filter _).imp λ{x y} h e=>h ?_
  injection e with _ e
  injection e
 ·obtain ⟨p,rfl,_⟩:=uw.mp f
  obtain ⟨l,c,_⟩:=uw.mp d
  rw [<- e] at c
  injection c with m _
  right
theorem ZH (R:RidF ns ms) (j:ps.Nodup) (G:∀p∈ps,0<=p/\p< ↥58) (I:gd.length<=30) (a0:0<=a) (U:a<=z+1):(qT ms gd wr ts n ps a (z+1-a).toNat).Perm (w9 ms gd wr ts n a z ps (max 0 (a-30)) (z+1-max 0 (a-30)).toNat):=by
 refine (List.perm_ext_iff_of_nodup (R.fallsN _) (lawN j _ _)).mpr λr=>?_
 rw [JH]
 unfold w9
 rw [sF]
 refine ⟨λ⟨i,hi,c⟩=>?_,λ⟨i,hi,c⟩=>?_⟩
 ·obtain ⟨w,p,rfl,b,h⟩:=uF c
  obtain ⟨h1,h2,e,f⟩:=wj R h
  refine ⟨(w-max 0 (a-30)).toNat,List.mem_range.mpr (),?_⟩
  rw [show max 0 (a-30)+(((w-max 0 (a-30)).toNat:Nat):Int)=w by right]
  exact uw.mpr ⟨p,rfl,b,_,h1,(),()⟩
 ·obtain ⟨p,rfl,b,y,h1,h2,e⟩:=uw.mp c
  have d:=G p b
  refine ⟨(y-a).toNat,(),?_⟩
  rw [show a+(((y-a).toNat:Nat):Int)=y by right]
  exact List.mem_filter.mpr ⟨YB R () d.1 d.2 h1,decide_eq_true b⟩
end
structure CsOk (c:ScN) (cs:List Clf):Prop where
 l:cs.length<=12
 nd:(cs.map λx=>(x.1,x.2.1)).Nodup
 b:∀x∈cs,0<=x.1/\x.1<(c.ws.length:Int)/\(∃w,c.ws[x.1.toNat]? = some w/\0<=x.2.1/\x.2.1<((jc c.rs w).length:Int))/\nZ x.2.2=true
noncomputable def clK (x:Clf):List Key×V:=([.inl x.1,.inl x.2.1],.bl true)
structure ClB (L b:Addr) (H H2:Hp) (fo sp:Addr) (cs:List Clf) (kv:List (List Key×V)):Prop where
 e1:∃cvs,H2 fo=some (.lst cvs)/\xK H2 cvs cs
 e2:H2 sp=some (.dT kv)
 B:jK L H2 b
 X:Ext b H H2
 f0:H fo=none
 s0:H sp=none
 fb:fo≠b
theorem ClB.take {b:Addr}{kv:List (List Key×V)}(S:ClB L b H H2 G sp cs kv) (B:jK L j b) (X:Ext b H2 j):ClB L b H j G sp cs kv:=by
 obtain ⟨a,h1,h2⟩:=S.e1
 obtain ⟨_,_,_,_,_,c,_⟩:=id S.B
 exact ⟨⟨a,X _ _ h1 S.fb,h2.keep (vF S.B X)⟩,X _ _ S.e2 (jm S.e2 c ↥3),B,S.X.trans X,S.f0,S.s0,S.fb⟩
theorem ClB.same {b:Addr}{kv:List (List Key×V)}(S:ClB L b H H2 j sp cs kv) (s:jo H2 G):ClB L b H G j sp cs kv:=S.take (S.B.same s) (Ext.of_same s)
theorem ClB.put {b:Addr}{j:List (List Key×V)}(S:ClB L b H H2 G sp cs j) (B:jK L H b):ClB L b H (upd H2 sp (.dT kv')) G sp cs kv':=by
 obtain ⟨e,h1,h2⟩:=S.e1
 refine ⟨⟨e,by rw [j8 (jm h1 S.e2 ↥3)];exact h1,h2.keep λa xs z=>by rw [j8 (jm z S.e2 ↥3)];exact z⟩,j9,S.B.put (B.ne S.s0) (B.neL S.s0),λc o d n=>?_,S.f0,S.s0,S.fb⟩
 rw [j8 (j4 d S.s0)]
 exact S.X c o d n
theorem ClB.add {b:Addr}{t:Addr}{kv:List (List Key×V)}{x:Clf}(S:ClB L b H H2 G sp cs kv) (B:jK L H b) (h1:H2 G=some (.lst j)) (h2:xK H2 j cs) (I:H2 t=some (clT x)):ClB L b H (upd H2 G (.lst (j++[.ref t]))) G sp (cs++[x]) kv:=by
 have kp:jn H2 (upd H2 G (.lst (j++[.ref t]))):=λa xs z=>by rw [j8 (jm z h1 ↥3)];exact z
 refine ⟨⟨_,j9,cE (h2.keep kp) ⟨t,rfl,kp _ _ I⟩⟩,by rw [j8 (jm S.e2 h1 ↥3)];exact S.e2,S.B.put S.fb (B.neL S.f0),λc o d n=>?_,S.f0,S.s0,S.fb⟩
 rw [j8 (j4 d S.f0)]
 exact S.X c o d n
theorem VT {cs:List Clf}{l n:Int}(h:(l,n)∉cs.map λx=>(x.1,x.2.1)):qE (cs.map clK) [.inl l,.inl n]=none:=by
 induction cs with
 | nil=>rfl
 | cons x r b =>
  rw [aQ,eN,not_or] at h
  rw [aQ]
  refine (vp (p:=clK x) λe=>h.1 ?_).trans (b h.2)
  have e:([.inl x.1,.inl x.2.1]:List Key)=[.inl l,.inl n]:=e
  injection e with c a
  injection a with a _
  rw [eX c,eX a]
theorem Vy {cs:List Clf}{l n:Int}(h:(l,n)∈cs.map λx=>(x.1,x.2.1)):(qE (cs.map clK) [.inl l,.inl n]).isSome=true:=by
 induction cs with
 | nil=>cases h
 | cons x r c =>
  rw [aQ]
  by_cases e:([.inl x.1,.inl x.2.1]:List Key)=[.inl l,.inl n]
  ·rw [ur (p:=clK x) e]
   rfl
  ·rw [show qE (clK x::r.map clK) [.inl l,.inl n]=qE (r.map clK) [.inl l,.inl n] from vp e]
   rw [aQ] at h
   rcases List.mem_cons.mp h with z | z
   ·injection z with b a
    exact absurd (by rw [b,a]) e
   ·exact c z
theorem E2 {v:Int}(a:0<=v) (b:v<2):∃n,atI [V.int 3,V.int 13] v=some (V.int n)/\0<n/\n<=13:=by
 have h:v=0\/v=1:=()
 rcases h with rfl | rfl
 ·exact ⟨3,rfl,(),()⟩
 ·exact ⟨13,rfl,(),()⟩
theorem WX:∀k:Fin 26,nZ (ltr ((k.val:Nat):Int))=true:=∅
theorem Wq {v k:Int}(a:0<=v) (b:v<3) (k0:0<=k) (k1:k<26):∃r,atI [V.str "a",V.str "b",V.str (ltr k)] v=some (V.str r)/\nZ r=true:=by
 have e:=WX ⟨k.toNat,()⟩
 rw [show ((k.toNat:Nat):Int)=k by right] at e
 have h:v=0\/v=1\/v=2:=()
 rcases h with rfl | rfl | rfl
 ·exact ⟨_,rfl,∅⟩
 ·exact ⟨_,rfl,∅⟩
 ·exact ⟨_,rfl,e⟩
inductive spCliffs  (vs:List V) (H:Hp) (Q:VK) (z_3:XK):Prop
 | mk (L b sd:Addr) (c:ScN) (_:vs=[.ref b,.ref sd]) (_:jK L H b) (_:ScAt H sd c) (_:ScOk b c) (_:1<=c.ws.length) (_:c.ws.length<=6) (_: ↥106) (_:∀(o:Addr) (H':Hp) (cvs:List V) (cs:List Clf),H o=none->H' o=some (.lst cvs)->xK H' cvs cs->CsOk c cs->jK L H' b->Ext b H H'->Q (.ref o) H')
theorem qt:FnScope ["_law_box_here","_law_scene_here","_law_found","_law_spots","_law_turn","_law_lane","_law_place"] ["_law_box_here","_law_scene_here"] (ja yw):=by walk_at "s"
theorem YW (nb:Nb2 mg) (j:Cal P w K mg base 2 "_law_take" ["_law_box_here","_law_size"] spTakeL) (I:Cal P w K mg base 3 "_law_spot" ["_law_box_here","_law_scene_here"] spSpot) (G:Cal P w K mg base 1 "_law_letter" ["_law_number"] spLetter)
  (F:Fun K "_law_cliffs" "_law_cliffs" yw f fd):FnOk P w K mg base CX0 4 f fd ["_law_box_here","_law_scene_here"] spCliffs:=by
 refine F.ok qt ↥33 (λcy A outer s H vs Q E e h=>?_)
 ·obtain ⟨L,b,R,c,rfl,_⟩:=h
  rfl
 ·obtain ⟨L,b,R,c,rfl,B,S,O,bq,bn,hg,k⟩:=h
  have ch:c.zs.length=c.ws.length:=(aP S.gi).trans (ag _)
  refine ⟨_,(j6 (js 2 qt.nd (jB j5))
   (j6 (js 3 qt.nd Vq)
   (j6 (qA bh rfl (qy rfl nb.b_range (j0 (je j (e.mono ⋯) rfl (j0 (pv 0) (j0 (jp (jg K) (jB ↥143) (je j (e.mono ⋯) rfl ↥10) (λ_ _=>rfl)) j5))) j5)) (jd (i:=4) qt.nd rfl (aR rfl)) (j6 (xO (je I (e.mono ⋯) rfl (j0 (pv 0) ↥47)) (qj (n:=2) K rfl (jh (jd (i:=5) qt.nd rfl (aR rfl)) (jh (jd (i:=6) qt.nd rfl (aR rfl)) qi))))
   (uG (jN (jq xA (je j (e.mono ⋯) rfl ↥10) j7 (jw _)) (j6 (js 5 qt.nd j7)
   (jb (js 6 qt.nd (jr xT (pv 6) (jf (ji K) rfl nb.b_len b9 (j0 (jp (jg K) (jW (qk e) (pv 1) jC (λ_ _=>rfl)) j7 (λ_ _=>rfl)) j5)))))) jv)
   (jb (jN (VB (Ye (qk e) (qx (j0 (pv 5) (j0 (pv 6) j5))) (pv 3)) ↥60) (j6 (yt (qk e) (pv 3) (qx (j0 (pv 5) (j0 (pv 6) j5))) wV rfl)
   (jb (qa (zw K bF bz bA qh (pv 2) (j0 (qx (j0 (pv 5) (j0 (pv 6) (j0 (jp (jg K) (jB (j0 jC (j0 jC (j0 (je G (e.mono ⋯) rfl (j0 (je j (e.mono ⋯) rfl ↥10) j5)) j5)))) (je j (e.mono ⋯) rfl ↥10) (λ_ _=>rfl)) j5)))) j5))))) jv)))))
   (jb (jk (pv 2)))))),?_⟩
  walk_at "r"
  refine ⟨aB _,λN H1 Z Y s1=>?_⟩
  walk_at "r"
  intro sp T
  have B1:=B.same s1
  have s2:jo H (upd H1 sp (.dT [])):=s1.trans (jo.new T)
  have C2:ClB L b H (upd H1 sp (.dT [])) N sp [] []:=⟨⟨[],by rw [j8 (j4 Y T)];exact Y,.nil⟩,j9,B.same s2,Ext.of_same s2,Z,s1.free T,B.ne Z⟩
  generalize upd H1 sp (.dT [])=H2 at *
  walk_at "r"
  refine ⟨by show 2<=sizeLine;decide,λl3 H3 bv ba s3=>?_⟩
  have C3:=C2.same s3
  have bm:l3≠b:=C2.B.ne bv
  walk_at "r"
  refine ⟨L,b,_,rfl,C3.B,⟨⋯,⋯⟩,λv4 H4 p4 q4 B4 X4=>?_⟩
  have C4:=C3.take B4 X4
  obtain ⟨nn,hn,n0,n1⟩:=E2 p4 q4
  refine ⟨_,_,_,_,rfl,rfl,SqL.of (X4 _ _ ba bm),hn,?_⟩
  walk_at "r"
  refine ⟨L,b,_,rfl,C4.B,⟨n0,()⟩,λv5 H5 p5 q5 B5 X5=>?_⟩
  have C5:=C4.take B5 X5
  walk_at "r"
  refine ⟨(),(),?_⟩
  refine qI (λi σ H6=>∃(J x5 x6:Option V) (a:List Clf),σ=[some (.ref b),some (.ref R),some (.ref N),some (.ref sp),J,x5,x6]/\ClB L b H H6 N sp a (a.map clK)/\CsOk c a/\a.length<=i) ?_ ?_ ?_
  ·exact ⟨none,none,none,[],rfl,C5,⟨aB _,eV,λx hx=>by cases hx⟩,ak _⟩
  ·rintro i σ H6 hi ⟨J,x5,x6,a,rfl,m,g,b1⟩
   have S6:=S.ext O B m.X
   walk_at "r"
   refine ⟨L,b,R,c,rfl,m.B,S6,O,bq,bn,hg,λd n M t H7 C y D u o B7 X7 ht as=>?_⟩
   have C7:=m.take B7 X7
   walk_at "r"
   refine ⟨t,_,rfl,SqT.of as,rfl,?_⟩
   refine ⟨_,_,rfl,_,_,rfl,rfl,?_⟩
   refine ⟨λσ H8=>∃(J:Option V) (d n:Int) (M:List Int),σ=[some (.ref b),some (.ref R),some (.ref N),some (.ref sp),J,some (.int d),some (.int n)]/\ClB L b H H8 N sp a (a.map clK)/\0<=d/\d<(c.ws.length:Int)/\c.ws[d.toNat]? = some M/\0<=n/\n<((jc c.rs M).length:Int),?_,?_⟩
   ·walk_at "r"
    refine ⟨L,b,_,rfl,C7.B,⟨⋯,⋯⟩,λv8 H8 p8 q8 B8 X8=>?_⟩
    have C8:=C7.take B8 X8
    walk_at "r"
    refine qp (λz=>?_) (λz=>?_)
    ·have S8:=S.ext O B C8.X
     have aL:0<c.zs.length:=()
     obtain ⟨gw,a0,ga,b3,b0⟩:=Paired.get S8.gi (ae aL)
     rw [aH] at a0
     obtain ⟨w0,ap,rfl⟩:=Option.map_eq_some_iff.mp a0
     have cr:=hg w0 (aC ap)
     walk_at "r"
     refine ⟨R,.ref c.gl,rfl,by rw [<- zG c.p c.q c.sg c.gl c.ll];exact qQ.k (k:=.inr "grounds") S8.sd,?_⟩
     walk_at "r"
     refine ⟨_,_,_,_,rfl,rfl,SqL.of S8.gl,xg (l9 0) (v:=V.ref ga) (by rw [show (0:Int).toNat=0 from rfl,ae aL,b3]),?_⟩
     walk_at "r"
     refine ⟨ga,_,rfl,.inl (SqL.of b0),?_⟩
     rw [ag]
     walk_at "r"
     have m0:=fC n (show ((jc c.rs w0).length:Int)≠0 by right)
     have m1:=dZ n (show (0:Int)<((jc c.rs w0).length:Int) by right)
     exact ⟨_,0,_,w0,rfl,C8,l9 _,(),ap,m0,m1⟩
    ·exact ⟨_,d,n,M,rfl,C8,C,y,D,u,o⟩
   ·clear C7 as ht B7 X7 o u D y C
    rintro σ H8 ⟨J,d,n,M,rfl,C8,C,y,D,u,o⟩
    walk_at "r"
    refine ⟨by show 2<=sizeLine;decide,λt9 H9 cm a8 s9=>?_⟩
    have C9:=C8.same s9
    walk_at "r"
    refine ⟨sp,_,rfl,qQ.t (k:=[.inl d,.inl n]) C9.e2 a8,?_⟩
    walk_at "r"
    by_cases U:(d,n)∈a.map λx=>(x.1,x.2.1)
    ·rw [Vy U]
     walk_at "r"
     exact ⟨_,_,_,a,rfl,C9,g,()⟩
    ·have az:=VT U
     rw [az]
     walk_at "r"
     refine ⟨by show 2<=sizeLine;decide,λtA b5 cl a7 bc=>?_⟩
     have a5:=C9.same bc
     refine ⟨sp,_,rfl,wt.t (k:=[.inl d,.inl n]) a5.e2 a7 (by rw [ag];exact jj ()),?_⟩
     rw [yq _ az]
     have l:=a5.put (kv':=a.map clK++[([.inl d,.inl n],.bl true)]) B
     generalize upd b5 sp (.dT (a.map clK++[([.inl d,.inl n],.bl true)]))=b4 at *
     obtain ⟨ab,f1,f2⟩:=l.e1
     have ct:ab.length=a.length:=aP f2
     walk_at "r"
     refine ⟨.inl ⟨rfl,_,SqL.of f1⟩,?_⟩
     walk_at "r"
     refine ⟨L,b,_,rfl,l.B,⟨⋯,⋯⟩,λkq c1 k0 k1 cd a2=>?_⟩
     have a4:=l.take cd a2
     walk_at "r"
     refine ⟨k0,k1,?_⟩
     refine ⟨by show 3<=sizeLine;decide,λlB c0 bs a9 an=>?_⟩
     have a3:=a4.same an
     have bk:lB≠b:=a4.B.ne bs
     walk_at "r"
     refine ⟨L,b,_,rfl,a3.B,⟨⋯,⋯⟩,λce cL bi be cb ac=>?_⟩
     have ca:=a3.take cb ac
     obtain ⟨r,e,bd⟩:=Wq bi be k0 k1
     refine ⟨_,_,_,_,rfl,rfl,SqL.of (ac _ _ a9 bk),e,?_⟩
     walk_at "r"
     refine ⟨by show 3<=sizeLine;decide,λtC H15 ci a6 am=>?_⟩
     have b6:=ca.same am
     have al:Ext b b4 H15:=((a2.trans (Ext.of_same an)).trans ac).trans (Ext.of_same am)
     have a1:=al _ _ f1 l.fb
     have b2:=f2.keep (vF l.B al)
     refine ⟨_,_,_,rfl,rfl,a1,jj (),?_⟩
     refine ⟨_,_,_,a++[(d,n,r)],rfl,?_,⟨?_,?_,?_⟩,?_⟩
     ·rw [aD]
      exact b6.add B a1 b2 a6
     ·rw [ar]
      show a.length+1<=12
      right
     ·rw [aD]
      exact uK g.nd U
     ·intro x hx
      rcases List.mem_append.mp hx with z | z
      ·exact g.b x z
      ·rw [List.mem_singleton.mp z]
       exact ⟨C,y,⟨M,D,u,o⟩,bd⟩
     ·rw [ar]
      show a.length+1<=i+1
      right
  ·rintro σ H6 ⟨J,x5,x6,a,rfl,m,g,b1⟩
   obtain ⟨ab,h1,h2⟩:=m.e1
   walk_at "r"
   exact k N H6 ab a Z h1 h2 g m.B m.X
theorem Fr3.extB {b:Addr}{M:Addr->Prop}{H H2 H3:Hp}(f:Fr3 (λa=>a=b) M H H2) (X:Ext b H2 H3):Fr3 (λa=>a=b) M H H3:=λc o h n=>by
 rcases f c o h n with q | ⟨m,d,kvs,e,q⟩
 ·exact .inl (X _ _ q n)
 ·exact .inr ⟨m,d,kvs,e,X _ _ q n⟩
theorem Fr3.frM {N:Addr->Prop}(f:Fr3 N M H H2) (g:FrM M H2 H3):Fr3 N M H H3:=λc o h n=>by
 rcases f c o h n with q | ⟨m,a,kvs,b,q⟩
 ·exact g c o q
 ·exact .inr ⟨m,a,kvs,b,g.at q ↥4⟩
theorem Fr3.refl {N:Addr->Prop}:Fr3 N M H H:=λ_ _ h _=>.inl h
theorem Lw.fr3 {C L b j p:Addr}{c:ScN}{g:IceG}{H0 H H':Hp}(W:Lw C L b j p c g H0 H) (B:jK L H' b) (f:Fr3 (λa=>a=b) c.D H H'):Lw C L b j p c g H0 H':=by
 obtain ⟨_,_,_,_,_,d,_⟩:=W.B
 have e:∀{a:Addr} {kvs:List (Key×V)},Rd H a (.dK kvs)->¬a=b:=λh z=>by
  rcases h with h | ⟨o,h⟩
  ·exact absurd z (jm h d ↥3)
  ·exact absurd z (jm h d ↥3)
 have i:∀a xs,H a=some (.tup xs)->¬a=b:=λa xs h z=>absurd z (jm h d ↥3)
 refine ⟨B,W.S.keep f i (jm W.S.sd d ↥3) W.S.nD W.O.pb W.O.qb W.O.gb W.O.lb (λa h z=>W.O.zb (z ▸ h)) (e W.S.sg) (λx k=>e (W.S.ld x k)),W.I.stay W.F (λa o h n=>?_) (λa xs h=>f.at h (i a xs h) ↥4),W.O,W.F,W.B0,W.S0⟩
 rcases f a o h (W.B0.ne n) with z | ⟨m,_⟩
 ·exact z
 ·obtain ⟨_,q⟩:=W.S0.inD m
  rw [n] at q
  cases q
theorem VO {b:Addr}{M:Addr->Prop}{H H':Hp}(X:Ext b H H'):Fr3 (λa=>a=b) M H H':=λc o h n=>.inl (X c o h n)
theorem Qe {b:Addr}{M:Addr->Prop}{H H':Hp}(f:FrM M H H'):Fr3 (λa=>a=b) M H H':=λc o h _=>f c o h
theorem QW (f:Fr3 N M H H1) (g:Fr3 N M H1 H2):Fr3 N M H H2:=λc o h n=>by
 rcases f c o h n with h1 | ⟨m,a,kvs,e,h1⟩
 ·exact g c o h1 n
 ·rcases g c _ h1 n with h2 | ⟨_,i,b,d,_⟩
  ·exact .inr ⟨m,a,kvs,e,h2⟩
  ·cases d
theorem jK.frM {b:Addr}(B:jK L H b) (f:FrM M H H'):jK L H' b:=by
 obtain ⟨ns,a,r,c,d,h1,h2,g,e⟩:=B
 exact ⟨ns,a,r,c,d,f.at h1 ↥4,h2,f.at g ↥4,e⟩
theorem Zj {m y s:Int}{j:Nat}(R:RidF ns ms) (h:uY ((jT ms gd wr ts m).drop j) = .left y s):0<=y/\0<=s/\s< ↥58:=by
 obtain ⟨N,q,a,b,c,_,_⟩:=wc.mp h
 rw [cD] at a
 have B:=zJ a
 have hi:=(List.getElem?_eq_some_iff.mp a).1
 rw [zH] at hi
 rw [b,c] at B
 have e:=zc R.p R.s R.pos m
 have on:=(yD R.p R.s R.nd R.pos m ↥58 y ()).mpr ⟨(),()⟩
 rw [<- xv R.p] at on
 have d:=B.2
 unfold plc at d
 right
theorem Wj {v:Int}(a:0<=v) (b:v<2):∃n,atI [V.int 1,V.int 4] v=some (V.int n)/\0<n/\n<=4:=by
 have h:v=0\/v=1:=()
 rcases h with rfl | rfl
 ·exact ⟨1,rfl,(),()⟩
 ·exact ⟨4,rfl,(),()⟩
structure FindOk (c:ScN) (l n a z:Int):Prop where
 l0:0<=l
 l1:l<(c.ws.length:Int)
 w:∃w,c.ws[l.toNat]? = some w/\0<=n/\n<((jc c.rs w).length:Int)
 a0:0<=a
 az:a<=z
 z1:z<=99
 d:z-a<=6
structure FdS (L b sd cl:Addr) (c:ScN) (g:IceG) (cvs:List V) (cs:List Clf) (wr:List (Int×T3)) (H:Hp):Prop where
 B:jK L H b
 S:ScAt H sd c
 O:ScOk b c
 k:Lk c g
 w:yZ H c.sk wr
 h1:H cl=some (.lst cvs)
 nb:cl≠b
 h2:xK H cvs cs
 ok:CsOk c cs
theorem FdS.fr3 {L b G I:Addr}{c:ScN}{g:IceG}{j:List V}{cs:List Clf}{wr:List (Int×T3)}{H H':Hp}(W:FdS L b G I c g j cs wr H) (B:jK L H' b) (f:Fr3 (λa=>a=b) c.D H H'):FdS L b G I c g j cs wr H':=by
 obtain ⟨_,_,_,_,_,d,_⟩:=W.B
 have e:∀{a:Addr} {kvs:List (Key×V)},Rd H a (.dK kvs)->¬a=b:=λh z=>by
  rcases h with h | ⟨o,h⟩
  ·exact absurd z (jm h d ↥3)
  ·exact absurd z (jm h d ↥3)
 have i:∀a xs,H a=some (.tup xs)->¬a=b:=λa xs h z=>absurd z (jm h d ↥3)
 have kp:jn H H':=λa xs h=>f.at h (i a xs h) ↥4
 exact ⟨B,W.S.keep f i (jm W.S.sd d ↥3) W.S.nD W.O.pb W.O.qb W.O.gb W.O.lb (λa h z=>W.O.zb (z ▸ h)) (e W.S.sg) (λx l=>e (W.S.ld x l)),W.O,W.k,W.w.keep kp,f.at W.h1 W.nb ↥4,W.nb,W.h2.keep kp,W.ok⟩
theorem FdS.by {b G cl:Addr}(W:FdS L b G cl c g ab cs wr H) {l n y:Int}(LF:LaneF c g l j da I) (R:RidF I ms) (n0:0<=n) (Y:n<((jc c.rs j).length:Int)) (U:0<=y):ByL H G c g l n y j da I ms wr :=
 ⟨W.S,LF,R.p,R.s,W.w,W.O.t1,by have:=W.O.t2;right,n0,Y,U⟩
theorem LaneF.rid {G:Int}(L:LaneF c g G I U j):∃ms,RidF j ms:=by
 obtain ⟨ms,d,a⟩:=Jd j
 exact ⟨ms,d,a,L.nd,L.pos⟩
inductive spTrue  (vs:List V) (H:Hp) (Q:VK) (z_3:XK):Prop
 | mk (L b sd cl:Addr) (c:ScN) (g:IceG) (cvs:List V) (cs:List Clf) (wr:List (Int×T3)) (_:vs=[.ref b,.ref sd,.ref cl]) (_:FdS L b sd cl c g cvs cs wr H) (_:1<=cs.length) (_:(∀H',jK L H' b->Fr3 (λa=>a=b) c.D H H'->Q .non H')) (_:∀(t:Addr) (H':Hp) (l n a z:Int) (r:Str),H' t=some ↥104->FindOk c l n a z->jK L H' b->Fr3 (λa=>a=b) c.D H H'->Q (.ref t) H')
theorem qu:FnScope ["_law_box_here","_law_scene_here","_law_cliffs_here","_law_lane","_law_place","_law_rock","_law_end","_law_first"] ["_law_box_here","_law_scene_here","_law_cliffs_here"] (ja zr):=by walk_at "s"
theorem Q0 (nb:Nb2 mg) (j:Cal P w K mg base 2 "_law_take" ["_law_box_here","_law_size"] spTakeL) (G:Cal P w K mg base 3 "_law_rest_by_life" ["_law_scene_here","_law_lane","_law_place","_law_year_here"] spRestL)
  (F:Fun K "_law_true_find" "_law_true_find" zr f fd):FnOk P w K mg base CX0 4 f fd ["_law_box_here","_law_scene_here","_law_cliffs_here"] spTrue:=by
 refine F.ok qu ↥33 (λa6 A outer s H vs Q E m h=>?_)
 ·obtain ⟨L,b,sd,cl,c,g,p,cs,wr,rfl,_⟩:=h
  rfl
 ·obtain ⟨L,b,sd,cl,c,g,p,cs,wr,rfl,W,c1,kN,k⟩:=h
  have a0:p.length=cs.length:=aP W.h2
  have a7:=W.ok.l
  refine ⟨_,(j6 (xO (jp (jg K) (pv 2) (je j (m.mono ⋯) rfl (j0 (pv 0) (j0 (jf (ji K) rfl nb.b_len b9 ↥65) j5))) (λ_ _=>rfl)) (qj (n:=3) K rfl (jh (jd (i:=3) qu.nd rfl (aR rfl)) (jh (jd (i:=4) qu.nd rfl (aR rfl)) (jh (jd (i:=5) qu.nd rfl (aR rfl)) qi)))))
   (j6 (js 6 qu.nd (je G (m.mono ⋯) rfl (j0 (pv 1) (j0 (pv 3) (j0 (pv 4) (j0 (je j (m.mono ⋯) rfl ↥10) j5))))))
   (j6 (jN (PW.pt (ZX (jq xA ↥101 jC (jw _)) (Qz (jq QG ↥101 j7 (jw _))))) (jb (jk wb)) jv)
   (j6 (js 7 qu.nd (jf (zA rfl) rfl nb.b_max oX (j0 j7 (j0 (jr qO ↥101 ↥34) j5))))
   (jb (jk (qx (j0 (pv 3) (j0 ↥101 (j0 (pv 7) (j0 (jf (w5 rfl) rfl nb.b_min Ak (j0 j7 (j0 (jr jL ↥101 ↥34) j5))) (j0 (pv 5) j5)))))))))))),?_⟩
  walk_at "r"
  refine ⟨cl,_,rfl,.inl (SqL.of W.h1),?_⟩
  walk_at "r"
  refine ⟨L,b,_,rfl,W.B,⟨(),()⟩,λv1 H1 p1 q1 B1 X1=>?_⟩
  have f1:Fr3 (λa=>a=b) c.D H H1:=VO X1
  have W1:=W.fr3 B1 f1
  have hi:v1.toNat<p.length:=()
  obtain ⟨x,hx,ba,az,as⟩:=Paired.get W1.h2 (ae hi)
  have xb:=W.ok.b x (aC hx)
  obtain ⟨x0,x1,⟨S,J,n0,n1⟩,_⟩:=xb
  refine ⟨_,_,_,_,rfl,rfl,SqL.of W1.h1,xg p1 (v:=V.ref ba) (by rw [ae hi,az]),?_⟩
  walk_at "r"
  refine ⟨ba,_,rfl,SqT.of as,rfl,?_⟩
  refine ⟨_,_,rfl,_,_,rfl,_,_,rfl,rfl,?_⟩
  walk_at "r"
  refine ⟨L,b,_,rfl,B1,⟨⋯,⋯⟩,λy H2 y0 y1 B2 X2=>?_⟩
  have f2:=f1.extB X2
  have W2:=W.fr3 B2 f2
  obtain ⟨a1,da,X,Y⟩:=W.k.lane W.O x0 x1
  have M:=Y.way
  rw [J] at M
  cases M
  obtain ⟨ms,R⟩:=Y.rid
  walk_at "r"
  refine ⟨sd,c,g,x.1,x.2.1,y,S,da,X,ms,wr,rfl,W2.by Y R n0 n1 y0,λt z e f3=>?_⟩
  have Z:=f2.frM f3
  have C:=jK.frM B2 f3
  generalize ed:uY ((jT ms (jc c.rs S) wr c.ts (y+jA X y-x.2.1)).drop (y-jz 0 0 ms (y+jA X y-x.2.1)).toNat)=d at *
  walk_at "r"
  cases d with
  | off yo =>
   have e:z t=some (.tup [.str "off",.int yo]):=e
   walk_at "r"
   exact kN z C Z
  | left N sl =>
   have rr:=Zj R ed
   have e:z t=some (.tup [.str "left",.int N,.int sl]):=e
   walk_at "r"
   refine qp (λz1=>?_) (λz1=>?_)
   ·walk_at "r"
    exact kN z C Z
   ·have z1:N<=99:=()
    walk_at "r"
    refine ⟨by show 2<=sizeLine;decide,λl4 H4 ap U o=>?_⟩
    have ac:l4≠b:=C.ne ap
    have F4:=Z.same o
    have B4:=C.same o
    walk_at "r"
    refine ⟨L,b,_,rfl,B4,⟨⋯,⋯⟩,λv5 H5 p5 q5 B5 u=>?_⟩
    have F5:=F4.extB u
    obtain ⟨n5,am,m5,a3⟩:=Wj p5 q5
    refine ⟨_,_,_,_,rfl,rfl,SqL.of (u _ _ U ac),am,?_⟩
    walk_at "r"
    refine ⟨L,b,_,rfl,B5,⟨m5,()⟩,λd1 H6 p6 q6 B6 X6=>?_⟩
    have F6:=F5.extB X6
    have a5:H6 t=some (.tup [.str "left",.int N,.int sl]):=X6 _ _ (u _ _ (o _ _ e) (B4.ne_tup (o _ _ e))) (B5.ne_tup (u _ _ (o _ _ e) (B4.ne_tup (o _ _ e))))
    walk_at "r"
    refine ⟨_,_,rfl,?_⟩
    walk_at "r"
    refine ⟨by show 2<=sizeLine;decide,λl7 H7 an T s7=>?_⟩
    have ab:l7≠b:=B6.ne an
    have F7:=F6.same s7
    have B7:=B6.same s7
    walk_at "r"
    refine ⟨L,b,_,rfl,B7,⟨⋯,⋯⟩,λv8 H8 p8 q8 B8 X8=>?_⟩
    have F8:=F7.extB X8
    obtain ⟨n8,al,m8,a2⟩:=Wj p8 q8
    refine ⟨_,_,_,_,rfl,rfl,SqL.of (X8 _ _ T ab),al,?_⟩
    walk_at "r"
    refine ⟨L,b,_,rfl,B8,⟨m8,()⟩,λd2 H9 p9 q9 B9 X9=>?_⟩
    have F9:=F8.extB X9
    walk_at "r"
    refine ⟨_,_,rfl,?_⟩
    walk_at "r"
    refine ⟨by show 5<=sizeLine;decide,λtr aL a4 q I=>?_⟩
    refine k tr aL _ _ _ _ _ q ⟨x0,x1,⟨S,J,rr.2⟩,?_,?_,?_,?_⟩ (B9.same I) (F9.same I)
    all_goals (split <;> try split) <;> right
inductive spFind  (vs:List V) (H:Hp) (Q:VK) (z_3:XK):Prop
 | mk (L b sd cl:Addr) (c:ScN) (g:IceG) (cvs:List V) (cs:List Clf) (wr:List (Int×T3)) (_:vs=[.ref b,.ref sd,.ref cl]) (_:FdS L b sd cl c g cvs cs wr H) (_:1<=c.ws.length) (_:c.ws.length<=6) (_: ↥106) (_:∀(t:Addr) (H':Hp) (l n a z:Int) (r:Str),H' t=some ↥104->FindOk c l n a z->jK L H' b->Fr3 (λa=>a=b) c.D H H'->Q (.ref t) H')
theorem xx:FnScope ["_law_box_here","_law_scene_here","_law_cliffs_here","_law_told","_law_lane","_law_place","_law_first","_law_rock"] ["_law_box_here","_law_scene_here","_law_cliffs_here"] (ja vS):=by walk_at "s"
theorem Wb (nb:Nb2 mg) (j:Cal P w K mg base 2 "_law_take" ["_law_box_here","_law_size"] spTakeL) (G:Cal P w K mg base 4 "_law_true_find" ["_law_box_here","_law_scene_here","_law_cliffs_here"] spTrue) (U:Cal P w K mg base 3 "_law_spot" ["_law_box_here","_law_scene_here"] spSpot) (I:Cal P w K mg base 1 "_law_letter" ["_law_number"] spLetter)
  (F:Fun K "_law_find" "_law_find" vS f fd):FnOk P w K mg base CX0 5 f fd ["_law_box_here","_law_scene_here","_law_cliffs_here"] spFind:=by
 refine F.ok xx ↥33 (λas A outer s H vs Q E d h=>?_)
 ·obtain ⟨L,b,p,u,c,g,o,y,wr,rfl,_⟩:=h
  rfl
 ·obtain ⟨L,b,p,u,c,g,o,y,wr,rfl,W,ab,Z,hg,k⟩:=h
  have an:o.length=y.length:=aP W.h2
  refine ⟨_,(uG (jN (PW.pt (vm (jq QG (jf (ji K) rfl nb.b_len b9 ↥65) j7 (jw _)) (yO (jq QG ↥51 j7 (jw _))))) (j6 (js 3 xx.nd (je G (d.mono ⋯) rfl (j0 (pv 0) (j0 (pv 1) ↥65))))
   (jb (jN (jq UC (pv 3) wb (jw _)) (jb (jk (pv 3))) jv))) jv)
   (j6 (xO (je U (d.mono ⋯) rfl (j0 (pv 0) ↥47)) (qj (n:=2) K rfl (jh (jd (i:=4) xx.nd rfl (aR rfl)) (jh (jd (i:=5) xx.nd rfl (aR rfl)) qi))))
   (j6 (js 6 xx.nd ↥51)
   (j6 (js 7 xx.nd (jp (jg K) (jB (j0 jC (j0 jC (j0 (je I (d.mono ⋯) rfl (j0 ↥51 j5)) j5)))) ↥51 (λ_ _=>rfl)))
   (jb (jk (qx (j0 (pv 4) (j0 (pv 5) (j0 (pv 6) (j0 (jr jL (pv 6) ↥51) (j0 (pv 7) j5)))))))))))),?_⟩
  refine ⟨λσ H2=>∃C:Option V,σ=[some (.ref b),some (.ref p),some (.ref u),C,none,none,none,none]/\jK L H2 b/\Fr3 (λa=>a=b) c.D H H2,?_,?_⟩
  ·walk_at "r"
   refine ⟨u,_,rfl,.inl (SqL.of W.h1),?_⟩
   walk_at "r"
   refine qp (λz1=>?_) (λz1=>?_)
   ·walk_at "r"
    refine ⟨L,b,_,rfl,W.B,⟨⋯,⋯⟩,λv1 H1 p1 q1 B1 X1=>?_⟩
    have q:Fr3 (λa=>a=b) c.D H H1:=VO X1
    have W1:=W.fr3 B1 q
    walk_at "r"
    refine qp (λz2=>?_) (λz2=>?_)
    ·walk_at "r"
     refine ⟨L,b,p,u,c,g,o,y,wr,rfl,W1,(),(λH2 m e=>?_),λt H2 l n a z r ht ok m e=>?_⟩
     ·walk_at "r"
      exact ⟨m,QW q e⟩
     ·walk_at "r"
      exact k t H2 l n a z r ht ok m (QW q e)
    ·exact ⟨none,rfl,B1,q⟩
   ·exact ⟨none,rfl,W.B,Fr3.refl⟩
  ·rintro σ H2 ⟨C,rfl,m,e⟩
   have W2:=W.fr3 m e
   walk_at "r"
   refine ⟨L,b,p,c,rfl,m,W2.S,W.O,ab,Z,hg,λln n wy t H3 R N Y n0 n1 B3 X3 ht ac=>?_⟩
   have f3:=e.extB X3
   walk_at "r"
   refine ⟨t,_,rfl,SqT.of ac,rfl,?_⟩
   refine ⟨_,_,rfl,_,_,rfl,rfl,?_⟩
   walk_at "r"
   refine ⟨L,b,_,rfl,B3,⟨⋯,⋯⟩,λa H4 p4 q4 B4 X4=>?_⟩
   have f4:=f3.extB X4
   walk_at "r"
   refine ⟨L,b,_,rfl,B4,⟨⋯,⋯⟩,λkq H5 X k1 B5 X5=>?_⟩
   have f5:=f4.extB X5
   walk_at "r"
   refine ⟨X,k1,?_⟩
   refine ⟨by show 3<=sizeLine;decide,λlB H6 am x M=>?_⟩
   have T:lB≠b:=B5.ne am
   have B6:=B5.same M
   walk_at "r"
   refine ⟨L,b,_,rfl,B6,⟨⋯,⋯⟩,λv7 H7 p7 q7 B7 X7=>?_⟩
   have f7:=(f5.same M).extB X7
   obtain ⟨r,al,_⟩:=Wq p7 q7 X k1
   refine ⟨_,_,_,_,rfl,rfl,SqL.of (X7 _ _ x T),al,?_⟩
   walk_at "r"
   refine ⟨L,b,_,rfl,B7,⟨⋯,⋯⟩,λv8 H8 p8 q8 B8 X8=>?_⟩
   walk_at "r"
   refine ⟨by show 5<=sizeLine;decide,λtr H9 ap v J=>?_⟩
   exact k tr H9 ln n a (a+v8) r v ⟨R,N,⟨wy,Y,n0,n1⟩,p4,(),(),()⟩ (B8.same J) ((f7.extB X8).same J)
theorem kD {n a z w l:Int}{cs:List Clf}{j:Nat}(h:cs[j]? = some x):yearL ms gd wr ts n a z (qL l r (cs.take (j+1))) w=yearL ms gd wr ts n a z (qL l r (cs.take j)) w++if (x.1=l/\x.2.2=r)/\VM n a z (zx ms gd wr ts w x.2.1)=true then [[w,x.2.1]] else []:=by
 unfold yearL qL
 rw [bJ,h,cn,bK,aD,bK,aD]
 congr 1
 by_cases e:x.1=l/\x.2.2=r
 ·rw [cC (by exact decide_eq_true e),fD,aQ,lM]
  by_cases q:VM n a z (zx ms gd wr ts w x.2.1)=true
  ·rw [cC (by exact q),if_pos ⟨e,q⟩]
   rfl
  ·rw [cB (by exact q),if_neg λc=>q c.2]
   rfl
 ·rw [cB (by unfold US;rw [decide_eq_false e];exact aq),if_neg λc=>e c.1]
  rfl
inductive spLawFalls  (vs:List V) (H:Hp) (Q:VK) (z_3:XK):Prop
 | mk (L b sd cl fd:Addr) (c:ScN) (g:IceG) (cvs:List V) (cs:List Clf) (wr:List (Int×T3)) (l n a z:Int) (r:Str) (wy:List Int) (da:Addr) (dn ms:List (Int×Int)) (_:vs=[.ref sd,.ref cl,.ref fd]) (_:FdS L b sd cl c g cvs cs wr H) (_:H fd=some ↥104) (_:FindOk c l n a z) (_:LaneF c g l wy da dn) (_:RidF dn ms) (_:(w9 ms (jc c.rs wy) wr c.ts n a z (qL l r cs) (max 0 (a-30)) (z+1-max 0 (a-30)).toNat).length<128) (_:∀o H' out rows,H o=none->H' o=some (.lst out)->jU H' out rows->rows.Perm (w9 ms (jc c.rs wy) wr c.ts n a z (qL l r cs) (max 0 (a-30)) (z+1-max 0 (a-30)).toNat)->mK y4.kle rows->FrM c.D H H'->Q (.ref o) H')
theorem jP:FnScope ["_law_scene_here","_law_cliffs_here","_law_find_here","_law_lane","_law_place","_law_first","_law_last","_law_rock","_law_found","_law_year_here","_law_where","_law_spot_here","_law_kind","_law_end"] ["_law_scene_here","_law_cliffs_here","_law_find_here"] (ja vj):=by walk_at "s"
theorem Qt (nb:Nb2 mg) (G:Cal P w K mg base 3 "_law_rest_by_life" ["_law_scene_here","_law_lane","_law_place","_law_year_here"] spRestL)
  (F:Fun K "_law_falls" "_law_falls" vj f fd):FnOk P w K mg base CX0 4 f fd ["_law_scene_here","_law_cliffs_here","_law_find_here"] spLawFalls:=by
 refine F.ok jP ↥33 (λbd A outer s H vs Q E hr h=>?_)
 ·obtain ⟨L,b,sd,cl,fd,c,g,Z,J,wr,l,n,a,z,r,wy,da,dn,ms,rfl,_⟩:=h
  rfl
 ·obtain ⟨L,b,sd,cl,fd,c,g,Z,J,wr,l,n,a,z,r,wy,da,dn,ms,rfl,W,a6,ok,LF,R,a2,k⟩:=h
  have aL:Z.length=J.length:=aP W.h2
  have be:=W.ok.l
  have ⟨a0,az,z1,dz⟩:0<=a/\a<=z/\z<=99/\z-a<=6:=⟨ok.a0,ok.az,ok.z1,ok.d⟩
  have fr:∀{H'},FrM c.D H H'->FdS L b sd cl c g Z J wr H':=λf=>W.fr3 (jK.frM W.B f) (Qe f)
  have em:(if a-30 > 0 then a-30 else 0)=max 0 (a-30):=by split <;> right
  obtain ⟨lo,a8⟩:∃lo,max 0 (a-30)=lo:=⟨_,rfl⟩
  rw [a8] at a2 k em
  refine ⟨_,(j6 (xO (pv 2) (qj (n:=5) K rfl (jh (jd (i:=3) jP.nd rfl (aR rfl)) (jh (jd (i:=4) jP.nd rfl (aR rfl)) (jh (jd (i:=5) jP.nd rfl (aR rfl)) (jh (jd (i:=6) jP.nd rfl (aR rfl)) (jh (jd (i:=7) jP.nd rfl (aR rfl)) qi)))))))
   (j6 (js 8 jP.nd (jB j5))
   (j6 (qA bh rfl (wD rfl nb.b_range (j0 (jf (zA rfl) rfl nb.b_max oX (j0 j7 (j0 (jr qO (pv 5) j7) j5))) (j0 (jr jL (pv 6) j7) j5))) (jd (i:=9) jP.nd rfl (aR rfl)) (jb (qA bh rfl (jX K (pv 1)) (qj (n:=3) K rfl (jh (jd (i:=10) jP.nd rfl (aR rfl)) (jh (jd (i:=11) jP.nd rfl (aR rfl)) (jh (jd (i:=12) jP.nd rfl (aR rfl)) qi)))) (jb (jN (PW.pt (vm (jq xA (pv 10) (pv 3) (jw _)) (yO (jq xA (pv 12) (pv 7) (jw _))))) (j6 (js 13 jP.nd (je G (hr.mono ⋯) rfl (j0 (pv 0) (j0 (pv 3) (j0 (pv 11) (j0 (pv 9) j5))))))
   (jb (jN (PW.pt (vm (jq xA (jp (ql K) (pv 13) j7 (λ_ _=>rfl)) jC (jw _)) (vm (jq xA (jp (ql K) (pv 13) j7 (λ_ _=>rfl)) (pv 4) (jw _)) (yO (zf qC qC (pv 5) (jp (ql K) (pv 13) j7 (λ_ _=>rfl)) (pv 6)))))) (jb (qa (zw K bF bz bA qh (pv 8) (j0 (qx (j0 (pv 9) (j0 (pv 11) j5))) j5)))) jv))) jv)))))
   (jb (jk (jf (vQ K rfl) rfl nb.b_sorted mn (j0 (pv 8) j5))))))),?_⟩
  walk_at "r"
  refine ⟨fd,_,rfl,SqT.of a6,rfl,?_⟩
  refine ⟨_,_,rfl,_,_,rfl,_,_,rfl,_,_,rfl,_,_,rfl,rfl,?_⟩
  walk_at "r"
  refine ⟨aB _,λfo H1 a5 a1 s1=>?_⟩
  walk_at "r"
  refine ⟨_,_,rfl,?_⟩
  walk_at "r"
  rw [em]
  refine ⟨_,_,rfl,⟨(),(),(),()⟩,?_⟩
  refine qI (λi σ H2=>∃(x9 C y u m:Option V) (os:List V),σ=[some (.ref sd),some (.ref cl),some (.ref fd),some (.int l),some (.int n),some (.int a),some (.int z),some (.str r),some (.ref fo),x9,C,y,u,m]/\H2 fo=some (.lst os)/\os.length<=12*i/\jU H2 os (w9 ms (jc c.rs wy) wr c.ts n a z (qL l r J) lo i)/\FrM c.D H H2) ?_ ?_ ?_
  ·exact ⟨none,none,none,none,none,[],rfl,a1,aB _,.nil,FrM.of_same s1⟩
  ·rintro i σ H2 hi ⟨x9,C,y,u,m,os,rfl,h2,ac,r2,f2⟩
   walk_at "r"
   refine ⟨⟨_,SqL.of (fr f2).h1⟩,?_⟩
   refine yf (K:=K) (a:=cl) (xs:=Z) (λj σ Y=>∃(C y u m:Option V) (os:List V),σ=[some (.ref sd),some (.ref cl),some (.ref fd),some (.int l),some (.int n),some (.int a),some (.int z),some (.str r),some (.ref fo),some (.int (lo+(i:Int))),C,y,u,m]/\Y fo=some (.lst os)/\os.length<=12*i+j/\jU Y os (w9 ms (jc c.rs wy) wr c.ts n a z (qL l r J) lo i++yearL ms (jc c.rs wy) wr c.ts n a z (qL l r (J.take j)) (lo+(i:Int)))/\FrM c.D H Y) ?_ ?_ ?_ ?_
   ·refine ⟨_,_,_,_,os,rfl,h2,ac,?_,f2⟩
    rw [iI,show yearL ms (jc c.rs wy) wr c.ts n a z (qL l r []) (lo+(i:Int))=[] from rfl,bj]
    exact r2
   ·rintro j σ Y hj ⟨C,y,u,m,os,rfl,h3,al,r3,O⟩
    exact SqL.of (fr O).h1
   ·clear h2 ac r2 f2
    rintro j v σ Y hv ⟨C,y,u,m,os,rfl,h3,al,r3,O⟩
    have W3:=fr O
    obtain ⟨x,hx,ba,rfl,a7⟩:=Paired.get W3.h2 hv
    obtain ⟨b0,b1,⟨S,a3,p0,p1⟩,_⟩:=W.ok.b x (aC hx)
    have hj:=(List.getElem?_eq_some_iff.mp hx).1
    have no:∀{H4:Hp},FrM c.D Y H4->¬((x.1=l/\x.2.2=r)/\VM n a z (zx ms (jc c.rs wy) wr c.ts (lo+(i:Int)) x.2.1)=true)->jU H4 os (w9 ms (jc c.rs wy) wr c.ts n a z (qL l r J) lo i++yearL ms (jc c.rs wy) wr c.ts n a z (qL l r (J.take (j+1))) (lo+(i:Int))):=λN q=>by
     rw [kD hx,if_neg q,bj]
     exact jU.keep r3 (FrM.keepT N)
    walk_at "r"
    refine ⟨ba,_,rfl,SqT.of a7,rfl,?_⟩
    refine ⟨_,_,rfl,_,_,rfl,_,_,rfl,rfl,?_⟩
    walk_at "r"
    refine qp (λM=>?_) (λM=>?_)
    ·have M:x.1=l:=V.int.inj M
     walk_at "r"
     refine qp (λU=>?_) (λU=>?_)
     ·have U:x.2.2=r:=V.str.inj U
      have ew:S=wy:=by
       have:=LF.way
       rw [<- M,a3] at this
       exact bB this
      subst ew
      walk_at "r"
      refine ⟨sd,c,g,l,x.2.1,lo+(i:Int),S,da,dn,ms,wr,rfl,W3.by LF R p0 p1 (),λt H4 I N=>?_⟩
      have F4:=O.trans N
      have ed:uY ((jT ms (jc c.rs S) wr c.ts (lo+(i:Int)+jA dn (lo+(i:Int))-x.2.1)).drop (lo+(i:Int)-jz 0 0 ms (lo+(i:Int)+jA dn (lo+(i:Int))-x.2.1)).toNat)=zx ms (jc c.rs S) wr c.ts (lo+(i:Int)) x.2.1:=by
       unfold zx
       rw [xv R.p]
      rw [ed] at I
      have X:=N.at h3 ↥4
      walk_at "r"
      cases er:zx ms (jc c.rs S) wr c.ts (lo+(i:Int)) x.2.1 with
      | off yo =>
       rw [er] at I
       have I:H4 t=some (.tup [.str "off",.int yo]):=I
       walk_at "r"
       exact ⟨_,_,_,_,os,rfl,X,(),no N λq=>(by rw [er] at q;cases q.2),F4⟩
      | left yl sl =>
       rw [er] at I
       have I:H4 t=some (.tup [.str "left",.int yl,.int sl]):=I
       walk_at "r"
       refine qp (λT=>?_) (λT=>?_)
       ·have T:sl=n:=V.int.inj T
        have ab:¬(a<=yl/\yl<=z)->jU H4 os (w9 ms (jc c.rs S) wr c.ts n a z (qL l r J) lo i++yearL ms (jc c.rs S) wr c.ts n a z (qL l r (J.take (j+1))) (lo+(i:Int))):=λe=>no N λq=>(by rw [er] at q;exact e (of_decide_eq_true q.2).2)
        walk_at "r"
        refine qp (λq4=>?_) (λq4=>?_)
        ·walk_at "r"
         refine qp (λq5=>?_) (λq5=>?_)
         ·walk_at "r"
          refine ⟨.inl ⟨rfl,_,SqL.of X⟩,?_⟩
          walk_at "r"
          refine ⟨by show 2<=sizeLine;decide,λtq H5 a9 ap s5=>?_⟩
          refine ⟨_,_,_,rfl,rfl,s5 _ _ X,jj (),?_⟩
          have h5:=s5 _ _ X
          have kp:jn H5 (upd H5 fo (.lst (os++[.ref tq]))):=λa xs q=>by rw [j8 (jm q h5 ↥3)];exact q
          refine ⟨_,_,_,_,os++[.ref tq],rfl,j9,by rw [ar];show os.length+1<=_;right,?_,FrM.put (F4.trans (FrM.of_same s5)) a5⟩
          rw [kD hx,if_pos ⟨⟨M,U⟩,by rw [er];exact decide_eq_true ⟨T,q4,q5⟩⟩,<- bR]
          exact cE (jU.keep (jU.keep r3 (λc xs q=>s5 _ _ (FrM.keepT N _ _ q))) kp) ⟨↥3,tq,rfl,kp _ _ ap⟩
         ·exact ⟨_,_,_,_,os,rfl,X,(),ab λe=>q5 e.2,F4⟩
        ·walk_at "r"
         exact ⟨_,_,_,_,os,rfl,X,(),ab λe=>q4 e.1,F4⟩
       ·exact ⟨_,_,_,_,os,rfl,X,(),no N λq=>(by rw [er] at q;exact T (congrArg V.int (of_decide_eq_true q.2).1)),F4⟩
     ·exact ⟨_,_,_,_,os,rfl,h3,(),no (FrM.of_same λ_ _=>id) λq=>U (congrArg V.str q.1.2),O⟩
    ·exact ⟨_,_,_,_,os,rfl,h3,(),no (FrM.of_same λ_ _=>id) λq=>M (congrArg V.int q.1.1),O⟩
   ·rintro σ Y ⟨C,y,u,m,os,rfl,h3,al,r3,O⟩
    refine ⟨_,_,_,_,_,os,rfl,h3,(),?_,O⟩
    rw [YF]
    rw [aL,bg] at r3
    exact r3
  ·rintro σ H2 ⟨x9,C,y,u,m,os,rfl,h2,ac,r2,f2⟩
   have bc:=aP r2
   walk_at "r"
   refine ⟨fo,os,_,rfl,SqL.of h2,(),r2,λo H6 an ho a4 s6 as=>?_⟩
   obtain ⟨am,M,U,T⟩:=Y7 r2 (jn.same s6) as
   exact k o H6 an am (f2.no ho) a4 M U T (f2.trans (FrM.of_same s6))
noncomputable def Qq (x:Clf):PyData:=.tuple [.int x.1,.int x.2.1,.str x.2.2]
theorem xK.dat :∀{vs:List V}{cs:List Clf},xK H vs cs->DatL H vs (cs.map Qq)
 | _,_,.nil=>.nil
 | _,_,.cons ⟨b,e,h⟩ r=>by
  subst e
  exact .cons (.tup h (.cons (.int _) (.cons (.int _) (.cons (.str _) .nil)))) (xK.dat r)
noncomputable def Vi (r:List Int):PyData:=.tuple (r.map nO)
theorem jU.dat :∀{vs:List V}{j:List (List Int)},jU H vs j->DatL H vs (j.map Vi)
 | _,_,.nil=>.nil
 | _,_,.cons ⟨_,b,e,h⟩ r=>by
  subst e
  exact .cons (.tup h (DatL.ints _)) (jU.dat r)
theorem W9 {cs:List Clf}(h:∀x∈cs,nZ x.2.2=true):nI (.list (cs.map Qq))=true:=by
 have h1:mD (cs.map Qq)=true:=by
  induction cs with
  | nil=>rfl
  | cons x r a =>
   show (oY (Qq x) && mD (r.map Qq))=true
   rw [a λy b=>h y (aK _ b),pI]
   simp [Qq,oY,mD,h x (aM ..)]
 have h2:oi (cs.map Qq)<=10:=by
  clear h h1
  induction cs with
  | nil=>exact aB _
  | cons x r a =>
   rw [aQ]
   unfold oi
   have:rX (Qq x)<=10:=by simp [Qq,rX,oi]
   right
 unfold nI
 unfold oY rX
 rw [h1,eL]
 exact decide_eq_true ()
theorem WG {j:List (List Int)}(h:j.length<=1000) (h2:∀r∈j,r.length<=1000):xI 3 (.list (j.map Vi))=true:=by
 refine YO (by rw [ag];exact h) ?_
 rw [bP]
 intro x a
 obtain ⟨r,b,rfl⟩:=List.mem_map.mp a
 show (decide ((r.map nO).length<=1000) && (r.map nO).all (xI 1))=true
 rw [Z5,pI]
 exact decide_eq_true (by rw [ag];exact h2 r b)
theorem kS {l:Int}:∀{cs:List Clf},(cs.map λx=>(x.1,x.2.1)).Nodup->(qL l r cs).Nodup
 | [],_=>eV
 | x::cs,h=>by
  rw [aQ] at h
  obtain ⟨h1,h2⟩:=List.nodup_cons.mp h
  have b:=kS (l:=l) (r:=r) h2
  unfold qL at b ⊢
  rw [sD]
  split
  ·rename_i e
   rw [aQ]
   refine List.nodup_cons.mpr ⟨λq=>h1 ?_,b⟩
   obtain ⟨y,d,f⟩:=List.mem_map.mp q
   obtain ⟨c,a⟩:=List.mem_filter.mp d
   have e:=of_decide_eq_true e
   have a:=of_decide_eq_true a
   refine List.mem_map.mpr ⟨y,c,?_⟩
   rw [f,a.1,e.1]
  ·exact b
theorem U2 {l:Int}{cs:List Clf}{p:Int}(h:p∈qL l r cs):∃x∈cs,x.1=l/\x.2.1=p:=by
 obtain ⟨x,a,e⟩:=List.mem_map.mp h
 obtain ⟨h1,h2⟩:=List.mem_filter.mp a
 exact ⟨x,h1,(of_decide_eq_true h2).1,e⟩
theorem Vt {l:Int}:(qL l r cs).length<=cs.length:=by
 unfold qL
 rw [ag]
 exact bU _ _
theorem zY:FnScope ["_law_script","_law_box_here","_law_scene_here","_law_ice","_law_cliffs_here","_law_handed","_law_turn","_law_find_here","_law_due","_law_told"] ["_law_script"] (ja uV):=by walk_at "s"
theorem G1 (nb:Nb2 mg)
  (as:Cal P w K mg base 1 "_law_box" ["_law_script"] (spBoxL K)) (Y:Cal P w K mg base 5 "_law_scene" ["_law_box_here"] spScene) (ac:Cal P w K mg base 10 "_law_made" ["_law_scene_here"] (spMade C Pt))
  (U:Cal P w K mg base 4 "_law_cliffs" ["_law_box_here","_law_scene_here"] spCliffs) (al:Cal P w K mg base 5 "_law_find" ["_law_box_here","_law_scene_here","_law_cliffs_here"] spFind) (ab:Cal P w K mg base 4 "_law_falls" ["_law_scene_here","_law_cliffs_here","_law_find_here"] spLawFalls) (G:Cal P w K mg base 5 "falls_for" ["ice","cliffs","find"] (spFalls C CN))
  (j:Cal P w K mg base 4 "_law_alike" ["_law_found","_law_due"] (spAl 3)) (F:Fun K "law" "law" uV f fd):FnOk P w K mg base CX0 11 f fd ["_law_script"] (spLawT K Pt):=by
 refine F.ok zY ↥33 (λdF A outer s H vs Q E y h=>?_)
 ·obtain ⟨a,ns,rfl,_⟩:=h
  rfl
 ·obtain ⟨a,ns,rfl,hS,dD,cr,k⟩:=h
  have T0:qJ H Pt:=.inl cr
  refine ⟨_,(j6 (js 1 zY.nd (je as (y.mono ⋯) rfl ↥53))
   (j6 (js 2 zY.nd (je Y (y.mono ⋯) rfl ↥47))
   (j6 (js 3 zY.nd (je ac (y.mono ⋯) rfl ↥65))
   (j6 (js 4 zY.nd (je U (y.mono ⋯) rfl (j0 (pv 1) ↥65)))
   (j6 (js 5 zY.nd (qN (qH K) rfl nb.b_list ck (j0 (pv 4) j5)))
   (j6 (qA bh rfl (qy rfl nb.b_range (j0 j7 j5)) (jd (i:=6) zY.nd rfl (aR rfl)) (j6 (js 7 zY.nd (je al (y.mono ⋯) rfl (j0 (pv 1) (j0 (pv 2) (j0 (pv 4) j5)))))
   (j6 (js 8 zY.nd (je ab (y.mono ⋯) rfl (j0 (pv 2) (j0 (pv 4) (j0 (pv 7) j5)))))
   (j6 (js 9 zY.nd (je G (y.mono ⋯) rfl (j0 (pv 3) (j0 (pv 5) (j0 (pv 7) j5)))))
   (j6 (jN (PW.pt (ZX (xM (zZ (je j (y.mono ⋯) rfl (j0 (pv 9) (j0 (pv 8) j5))))) (Qz (jq (UI K y.units) (pv 5) (pv 4) (jw _))))) (jb (jk wV)) jv)
   (j6 (qa (zw K bF bz bA qh (pv 9) (j0 (qx ↥143) j5)))
   (jb (jN (xM (zZ (je j (y.mono ⋯) rfl (j0 (je G (y.mono ⋯) rfl (j0 (pv 3) (j0 (pv 5) (j0 (pv 7) j5)))) (j0 (pv 8) j5))))) (jb (jk wV)) jv))))))))
   (jb (jk wV)))))))),?_⟩
  walk_at "r"
  refine ⟨a,ns,rfl,hS,λL b H1 hb B1 s1=>?_⟩
  have T1:=T0.same s1
  walk_at "r"
  refine ⟨L,b,rfl,B1,λX H2 c B2 X2 S2 O=>?_⟩
  have T2:=Uo B1 X2 T1
  walk_at "r"
  refine ⟨X,b,c,rfl,S2,O,T2,λp H3 g I3 F3 R3 T3 er et es ek el ld ny nd=>?_⟩
  have W3:Lw C L b X p c g H2 H3:=Lw.start S2 O B2 T2 I3 F3 R3
  have kk:Lk c g:=⟨er,et,es,ek,el,ld,ny,nd⟩
  clear I3 R3 T3 er et es ek el ld ny nd
  have bq:1<=c.ws.length:=by
   rw [O.ro.length]
   exact JM (qm O.gr.ok) O.l1
  have bn:c.ws.length<=6:=by rw [O.ro.length];exact O.gr.heads
  have be:∀w∈c.ws,1<=(jc c.rs w).length/\(jc c.rs w).length<=30:=λw hw=>⟨gK O.gr O.ro hw,(wL (O.gr.good O.l1 O.l8)).2.2.2 c.ws O.ro w hw⟩
  have ce:g.lds.length=g.slopes.length:=by rw [kk.ll,O.ldl,kk.sl,ag]
  have t1:=O.t1
  have t2:=O.t2
  walk_at "r"
  refine ⟨L,b,X,c,rfl,W3.B,W3.S,O,bq,bn,be,λcl H4 e cs ci bi c2 ap B4 X4=>?_⟩
  have W4:=W3.take B4 X4
  have c3:cl≠b:=W3.B.ne ci
  obtain ⟨wr,cd⟩:=yZ.of W4.S.sk
  walk_at "r"
  refine ⟨cl,e,rfl,.inl (SqL.of bi),λha H5 ch b1 s5=>?_⟩
  have cm:ha≠b:=B4.ne ch
  walk_at "r"
  refine ⟨(),(),?_⟩
  refine qI (λi σ H6=>∃x6 x7 x8 x9:Option V,σ=[some (.ref a),some (.ref b),some (.ref X),some (.ref p),some (.ref cl),some (.ref ha),x6,x7,x8,x9]/\Lw C L b X p c g H2 H6/\FdS L b X cl c g e cs wr H6/\H6 ha=some (.lst e)) ?_ ?_ ?_
  ·exact ⟨none,none,none,none,rfl,W4.same s5,⟨B4.same s5,W4.S.same s5,O,kk,cd.keep (jn.same s5),s5 _ _ bi,c3,c2.keep (jn.same s5),ap⟩,b1⟩
  ·rintro i σ H6 hi ⟨x6,x7,x8,x9,rfl,W6,V6,h6⟩
   walk_at "r"
   refine ⟨L,b,X,cl,c,g,e,cs,wr,rfl,V6,bq,bn,be,λt H7 l n u T r bd M B7 f7=>?_⟩
   have W7:=W6.fr3 B7 f7
   have V7:=V6.fr3 B7 f7
   have h7:=f7.at h6 cm ↥4
   obtain ⟨wy,da,dn,LF⟩:=kk.lane O M.l0 M.l1
   obtain ⟨ms,R⟩:=LF.rid
   have ⟨a0,az,z1,dz⟩:0<=u/\u<=T/\T<=99/\T-u<=6:=⟨M.a0,M.az,M.z1,M.d⟩
   have c0:=LF.g30
   have bk:=LF.sl
   have l0:=LF.l0
   have l1:=LF.l1
   have c4:=ap.l
   have pp:=ZH (gd:=jc c.rs wy) (wr:=wr) (ts:=c.ts) (n:=n) (ps:=qL l r cs) (a:=u) (z:=T) R (kS ap.nd) (λq hq=>by
    obtain ⟨x,hx,e1,e2⟩:=U2 hq
    obtain ⟨_,_,⟨w',bs,p0,p1⟩,_⟩:=ap.b x hx
    rw [e1,LF.way] at bs
    cases bs
    rw [<- e2]
    exact ⟨p0,p1⟩) c0 a0 ()
   have ct:(qT ms (jc c.rs wy) wr c.ts n (qL l r cs) u (T+1-u).toNat).length<=84:=by
    refine aN (R.fallsL _) (aN (Nat.mul_le_mul (show (T+1-u).toNat<=7 by right) (aN Vt c4)) (ak 84))
   have a2:∀(N:Hp) (Q':VK),Lw C L b X p c g H2 N->yZ N c.sk wr->N ha=some (.lst e)->xK N e cs->N t=some (.tup [.int l,.int n,.int u,.int T,.str r])->(∀o H' out aL,N o=none->H' o=some (.lst out)->jU H' out aL->aL.Perm (qT ms (jc c.rs wy) wr c.ts n (qL l r cs) u (T+1-u).toNat)->mK y4.kle aL->jo N H'->Q' (.ref o) H')->spFalls C CN [.ref p,.ref ha,.ref t] N Q' E0:=λN Q' W8 w8 h8 c8 t8 kq=>by
    refine ⟨p,ha,t,g,e,cs,l,n,u,T,r,c.sk,wr,dn,ms,rfl,W8.I,ce,kk.kv,w8,by rw [kk.rows];exact t1,by rw [kk.rows];right,h8,c8,(),t8,l0,l1,a0,(),(),LF.at_,(λq hq=>(LF.pos q hq).1),by rw [bk];right,R.p,R.s,?_,?_⟩
    ·rw [bk,kk.rows]
     right
    ·rw [bk,kk.rows]
     exact kq
   walk_at "r"
   refine ⟨L,b,X,cl,t,c,g,e,cs,wr,l,n,u,T,r,wy,da,dn,ms,rfl,V7,bd,M,LF,R,by rw [<- pp.length_eq];right,λdu N a9 rows8 dy J r8 p8 q8 f8=>?_⟩
   have W8:=W7.fr f8
   have k8:=FrM.keepT f8
   walk_at "r"
   refine a2 N _ W8 (V7.w.keep k8) (f8.at h7 ↥4) (V7.h2.keep k8) (k8 _ _ bd) λto H9 v rows9 bc a1 r9 p9 q9 s9=>?_
   obtain rfl:rows9=rows8:=xn (O:=y4) (p9.trans (pp.trans p8.symm)) q9 q8
   have dx:rows9.length<=84:=by rw [p9.length_eq];exact ct
   have bv:xI 3 (.list (rows9.map Vi))=true:=WG () λx hx=>by
    obtain ⟨i,_,hy⟩:=JH.mp (p9.mem_iff.mp hx)
    obtain ⟨_,_,rfl,_⟩:=uF hy
    show 2<=1000
    decide
   walk_at "r"
   refine ⟨_,_,.list (rows9.map Vi),rfl,.lst a1 (jU.dat r9),.lst (s9 _ _ J) (jU.dat (jU.keep r8 (jn.same s9))),bv,λH10 a3=>?_⟩
   have a6:FrM c.D H7 H10:=f8.trans (FrM.of_same (s9.trans a3))
   have bl:FdS L b X cl c g e cs wr H10:=V7.fr3 (jK.frM B7 a6) (Qe a6)
   have cL:=a6.at h7 ↥4
   walk_at "r"
   have a7:=W9 (cs:=cs) λx hx=>(ap.b x hx).2.2.2
   refine ⟨λ_=>False,λ_=>False,_,_,Dat.rep (λ_=>id) (.lst cL (xK.dat bl.h2)),Dat.rep (λ_=>id) (.lst bl.h1 (xK.dat bl.h2)),a7,a7,?_⟩
   rw [SeqAt.eqv_refl _ (SeqAt.canLay_of_shaped a7)]
   walk_at "r"
   have Z:=a3 _ _ a1
   refine ⟨.inl ⟨rfl,_,SqL.of Z⟩,?_⟩
   walk_at "r"
   refine ⟨by show 2<=sizeLine;decide,λtq a4 dp dk am=>?_⟩
   have dt:v.length=rows9.length:=aP r9
   refine ⟨_,_,_,rfl,rfl,am _ _ Z,jj (),?_⟩
   have b3:H7 to=none:=f8.no bc
   have a5:FrM c.D H7 (upd a4 to (.lst (v++[.ref tq]))):=(a6.trans (FrM.of_same am)).put b3
   have c1:du≠to:=λz=>by rw [z] at J;rw [J] at bc;cases bc
   have b2:upd a4 to (.lst (v++[.ref tq])) du=some (.lst a9):=by rw [j8 c1];exact am _ _ (a3 _ _ (s9 _ _ J))
   have b6:jU (upd a4 to (.lst (v++[.ref tq]))) a9 rows9:=jU.keep r8 λc xs q=>by
    have bm:=am _ _ (a3 _ _ (s9 _ _ q))
    rw [j8 (jm bm (am _ _ Z) ↥3)]
    exact bm
   clear r8 J W8 r9 a1 Z
   generalize upd a4 to (.lst (v++[.ref tq]))=dc at *
   have db:=W7.fr a5
   have ba:=FrM.keepT a5
   have cy:=a5.at h7 ↥4
   walk_at "r"
   refine a2 dc _ db (V7.w.keep ba) cy (V7.h2.keep ba) (ba _ _ bd) λt3 dK dd an ds b0 b5 cb ca a8=>?_
   obtain rfl:an=rows9:=xn (O:=y4) (cb.trans p9.symm) ca q9
   walk_at "r"
   refine ⟨_,_,.list (an.map Vi),rfl,.lst b0 (jU.dat b5),.lst (a8 _ _ b2) (jU.dat (jU.keep b6 (jn.same a8))),bv,λH14 b4=>?_⟩
   have m:FrM c.D H7 H14:=a5.trans (FrM.of_same (a8.trans b4))
   walk_at "r"
   first | exact ⟨_,_,_,_,rfl,W7.fr m,V7.fr3 (jK.frM B7 m) (Qe m),m.at h7 ↥4⟩ | exact ⟨W7.fr m,V7.fr3 (jK.frM B7 m) (Qe m),m.at h7 ↥4⟩
  ·rintro σ H6 ⟨x6,x7,x8,x9,rfl,W6,V6,h6⟩
   walk_at "r"
   exact k H6
end
local macro_rules | `(tactic| walk_at "1")=>`(tactic| exact fun _ _ _ _ _ _ _ hl=>bnd1 hl fun _=>rfl)
local macro_rules | `(tactic| walk_at "2")=>`(tactic| exact fun _ _ _ _ _ _ _ hl=>bnd2 hl fun _ _=>rfl)
local macro_rules | `(tactic| walk_at "3")=>`(tactic| exact fun _ _ _ _ _ _ _ hl=>bnd3 hl fun _ _ _=>rfl)
local macro_rules | `(tactic| walk_at "4")=>`(tactic| exact fun _ _ _ _ _ _ _ hl=>bnd4 hl fun _ _ _ _=>rfl)
local macro_rules | `(tactic| walk_at "5")=>`(tactic| exact fun _ _ _ _ _ _ _ hl=>bnd5 hl fun _ _ _ _ _=>rfl)
local macro_rules | `(tactic| walk_at "6")=>`(tactic| exact fun _ _ _ _ _ _ _ hl=>bnd6 hl fun _ _ _ _ _ _=>rfl)
theorem WZ {l:sO}{K:af}(X:K.In h) (G:h.Ns mainGlobals mg) (ek:mg "law" = some (.ref fa))
  
  {C0:Addr}
  {C1:Addr}
  {C2:Addr}
  {C3:Addr}
  {C4:Addr}
  {C5:Addr}
  {C6:Addr}
  
  
  
  
  
  
  
  
  
  
  (eo:bb K mainGlobals "Ice" = some (some (.ref CI))) (d4:fW K CI Str.empty=true) (em:iq K CI=true) (d3:mj K CI=true) (d2:bS K (.ref CI) "__setattr__" = some (some (.builtin "object.__setattr__"))) (eg:o9 K CI=true) (ei:cp K (.ref CI)=true)
  (ed:bS K (.ref CI) "valley" = some none)
  (ec:bS K (.ref CI) "cycle" = some none)
  (eb:bS K (.ref CI) "slopes" = some none)
  (ea:bS K (.ref CI) "years" = some none)
  (d7:bS K (.ref CI) "leaps" = some none)
  (a1:gN K "leads_on" vR)
  (a2:gN K "is_reach" yx)
  (a3:gN K "way_down" ul)
  (a4:bb K mainGlobals "lanes" = some (some (.ref f4))) (l4:K.lookup f4=some ⟨gw,gt,.func (bO "lanes" "lanes" (qf qX) (jS qX) (ja qX) .none gD gF gs gO (.ref cL) gI),gn⟩) (c4:d6 K (.ref cL) "lanes" = true) (k4:cp K (.ref f4)=true) (el:PySem.W.codeHdIn K cL 142=true)
  (a5:gN K "way_of" gG)
  (a6:gN K "count_places" xN)
  (a7:gN K "fits" Q5)
  (a8:gN K "is_valley" zO)
  (a9:gN K "heights" vB)
  (gc:gN K "is_weather" yF)
  (gb:gN K "change" gC)
  (ga:gN K "is_round" yM)
  (f9:gN K "check_round" y6)
  (f8:gN K "check_told" yN)
  (f7:gM K CI "__init__" "Ice.__init__" qM)
  (f6:gM K CI "check_lane" "Ice.check_lane" xE)
  (f5:gM K CI "check_place" "Ice.check_place" xq)
  (f3:gM K CI "length" "Ice.length" zW)
  (f2:gM K CI "height" "Ice.height" y9)
  (f1:gM K CI "sky" "Ice.sky" ub)
  (f0:gM K CI "tell" "Ice.tell" vg)
  (fz:gM K CI "surge" "Ice.surge" yA)
  (fy:gM K CI "surges" "Ice.surges" xY)
  (fx:gN K "earliest" uf)
  (fw:gN K "span" Z0)
  (fv:gN K "ride_by" vy)
  (fu:gN K "life" XX)
  (fp:gN K "left_in" we)
  (fo:gN K "falls_for" zo)
  (fi:gN K "_law_box" wm)
  (fb:gN K "_law_mixed" ve)
  (e9:gN K "_law_take" vX)
  (e8:gN K "_law_whole" vk)
  (cr:gN K "_law_alike" zn)
  (e7:gN K "_law_weather" y7)
  (e6:gN K "_law_round" zL)
  (e5:gN K "_law_ground_drawn" qw)
  (e4:gN K "_law_reaches" xj)
  (e3:gN K "_law_roads" zg)
  (e2:gN K "_law_ground" yy)
  (e1:gN K "_law_year" ug)
  (e0:gN K "_law_scene" zp)
  (eY:gN K "_law_made" uh)
  (eT:gN K "_law_row" wg)
  (eH:gN K "_law_wish" vT)
  (eD:gN K "_law_ride" yK)
  (eB:gN K "_law_spot" uj)
  (ey:gN K "_law_life_at" yb)
  (ew:gN K "_law_rest_by_life" xu)
  (ev:gN K "_law_letter" yu)
  (eu:gN K "_law_cliffs" yw)
  (et:gN K "_law_true_find" zr)
  (er:gN K "_law_find" vS)
  (eq:gN K "_law_falls" vj)
  (ep:bb K mainGlobals "law" = some (some (.ref c3))) (eh:K.lookup c3=some ⟨gl,gi,.func (bO "law" "law" (qf uV) (jS uV) (ja uV) .none du dy dt dD cs dz),ge⟩) (en:d6 K cs "law" = true) (ej:cp K (.ref c3)=true)
  (dn:gE K "BadValley" C0)
  (dk:gE K "BadRound" C1)
  (dd:gE K "NoLane" C2)
  (dc:gE K "BadYear" C3)
  (db:gE K "BadWeather" C4)
  (da:gE K "BadSurge" C5)
  (c8:gE K "NoPlace" C6)
  (z0:bb K mainGlobals "len" = some none)
  (z1:bb K mainGlobals "range" = some none)
  (z2:bb K mainGlobals "isinstance" = some none)
  (z3:bb K mainGlobals "int" = some none)
  (z4:bb K mainGlobals "bool" = some none)
  (z5:bb K mainGlobals "str" = some none)
  (z6:bb K mainGlobals "list" = some none)
  (z7:bb K mainGlobals "tuple" = some none)
  (z8:bb K mainGlobals "min" = some none)
  (z9:bb K mainGlobals "max" = some none)
  (d1:bb K mainGlobals "all" = some none)
  (d0:bb K mainGlobals "zip" = some none)
  (dV:bb K mainGlobals "enumerate" = some none)
  (dT:bb K mainGlobals "sorted" = some none)
  (dK:bb K mainGlobals "sum" = some none)
  (dF:bb K mainGlobals "dict" = some none)
  (q0:bb K mainGlobals "MOST_REACHES" = some (some (.int 8 u0)))
  (q1:bb K mainGlobals "MOST_HEIGHTS" = some (some (.int 12 u1)))
  (q2:bb K mainGlobals "GREATEST_HEIGHT" = some (some (.int 99 u2)))
  (q3:bb K mainGlobals "MOST_LANES" = some (some (.int 6 u3)))
  (q4:bb K mainGlobals "LONGEST_LANE" = some (some (.int 30 u4)))
  (q5:bb K mainGlobals "HIGHEST_LINE" = some (some (.int 100 u5)))
  (q6:bb K mainGlobals "MOST_HANDS" = some (some (.int 9 u6)))
  (q7:bb K mainGlobals "MOST_ROWS" = some (some (.int 12 u7)))
  (q8:bb K mainGlobals "LAST_TOLD" = some (some (.int 99 u8)))
  (q9:bb K mainGlobals "GREATEST_SURGE" = some (some (.int 9 u9)))
  : ∃fd:FuncData,(∀(s:Shared) (v:ai),sU s fd ⟨[v],[]⟩ [("_law_script",v)])/\∀base:Heap,K.In base->base.Ns mainGlobals mg->Bm mg base->FnOk l.prog w K mg base CX0 11 fa fd ["_law_script"] (spLawT K 142):=by
 have e:=ek.symm.trans (bG X G ep)
 cases e
 have nb:Nb2 mg:={ b_len:=bD X G z0,b_range:=bD X G z1,b_isinstance:=bD X G z2,b_int:=bD X G z3,b_bool:=bD X G z4,b_str:=bD X G z5,b_list:=bD X G z6,b_tuple:=bD X G z7,b_min:=bD X G z8,b_max:=bD X G z9,b_all:=bD X G d1,b_zip:=bD X G d0,b_enumerate:=bD X G dV,b_sorted:=bD X G dT,b_sum:=bD X G dK }
 have c1:=bD X G dF
 have A:=bG X G q0
 have B:=bG X G q1
 have r:=bG X G q2
 have R:=bG X G q3
 have C:=bG X G q4
 have D:=bG X G q5
 have S:=bG X G q6
 have ac:=bG X G q7
 have al:=bG X G q8
 have t:=bG X G q9
 have am:=bG X G dn.e
 have ab:=dn.x
 have bk:=bG X G dk.e
 have be:=dk.x
 have T:=bG X G dd.e
 have P:=dd.x
 have cb:=bG X G dc.e
 have b6:=dc.x
 have U:=bG X G db.e
 have Q:=db.x
 have bi:=bG X G da.e
 have bd:=da.x
 have ca:=bG X G c8.e
 have b5:=c8.x
 have d:Cls K CI:=⟨d4,em,d3,d2⟩
 have i:IceC K CI:=⟨d,ed,ec,eb,ea,d7⟩
 refine ⟨bO "law" "law" (qf uV) (jS uV) (ja uV) .none du dy dt dD cs dz,λs v=>.of_eq rfl,λbase dp _ ds=>?_⟩
 have CH:=PySem.W.codeHd_of_K dp el
 have z:Zt l.prog w K mg base:=⟨X,G⟩
 have bm:=a1.cal z ↥24 (XE)
 have b2:=a2.cal z ↥24 (QZ nb B r bm)
 have bl:=a3.cal z ↥24 (QF nb)
 have E:Cal l.prog w K mg base 5 "lanes" ["reaches"] (spLanes K 142):=Cal.mkC (st:=qX) X G a4 l4 c4 k4 ↥64 (Vh nb bl CH ds l4 c4)
 have cl:=a5.calX z ↥24 (YT nb T P E)
 have H:=a6.cal z ↥24 (k7 nb)
 have c0:=a7.cal z ↥24 (U5 nb R C H)
 have a0:=a8.cal z ↥64 (JW nb A b2 E c0)
 have ci:=a9.calX z ↥24 (Zb nb cl)
 have o:=gc.cal z ↥64 (Jg D S)
 have cm:=gb.cal z ↥24 (YU)
 have b1:=ga.cal z ↥64 (XQ nb.toNb ac o)
 have M:=f9.calX z ↥64 (gW nb bk be b1)
 have p:=f8.calX z ↥64 (Jf al cb b6)
 have c2:=f7.mak z eg ei eo ↥92 (wv nb i am ab a0 M E ci.cal)
 have c:=f6.calX z ↥24 (vZ nb i T P)
 have q:=f5.calX z ↥92 (vH nb i ca b5 d c)
 have N:=f3.calX z ↥24 (gz nb i d c)
 have O:=f2.calX z ↥92 (kH nb i d q)
 have b4:=f1.cal z ↥24 (Xw nb i)
 have bc:=f0.calX z ↥92 (Qy nb i U Q p o)
 have Z:=fz.calX z (by walk_at "4") (Jc nb i d t bi bd c p)
 have g:=fy.calX z ↥24 (gU nb i d c)
 have b3:=fx.cal z ↥24 (Xy nb)
 have ct:=fw.calX z ↥92 (UK d g N b3)
 have I:=fv.cal z ↥24 (ZE nb)
 have cy:=fu.calX z ↥92 (Uv nb c1 d ct g I cm b4 O)
 have cd:=fp.cal z ↥24 (Z2)
 have ba:=fo.cal z ↥92 (Qc nb d g I cy cd)
 have ch:=fi.cal z ↥64 (Go nb.toNb)
 have az:=fb.cal z ↥24 (Va)
 have a:=e9.cal z ↥24 (Uy nb.toNb az)
 have j:=e8.cal z ↥64 (U4 nb)
 have b:=cr.cal z ↥24 (YR)
 have b:=cr.cal z ↥24 (wB 0 nb j b)
 have b:=cr.cal z ↥24 (wB 1 nb j b)
 have b:=cr.cal z ↥24 (wB 2 nb j b)
 have k:=e7.cal z ↥64 (Zv a)
 have ap:=e6.cal z ↥64 (Vs nb.toNb a k)
 have n:=e5.cal z ↥92 (k9 nb a)
 have J:=e4.cal z ↥64 (Zl nb a n)
 have as:=e3.cal z ↥64 (Vj nb)
 have V:=e2.cal z ↥24 (Yj)
 have bn:=e1.cal z ↥64 (Uj a)
 have an:=e0.cal z ↥64 (Vm nb a J ap V as bn k)
 have bv:=eY.cal z ↥64 (UD nb d c2 bc Z)
 have ce:=eT.cal z ↥24 (GE nb)
 have bq:=eH.cal z ↥24 (UE)
 have bs:=eD.cal z ↥92 (UQ nb)
 have y:=eB.cal z ↥24 (Ul nb a)
 have L:=ey.cal z (by walk_at "4") (ZG nb bs bq ce)
 have f:=ew.cal z (by walk_at "4") (wY L)
 have m:=ev.cal z ↥64 (J9)
 have Y:=eu.cal z ↥24 (YW nb a y m)
 have u:=et.cal z ↥92 (Q0 nb a f)
 have b0:=er.cal z ↥92 (Wb nb a u y m)
 have aL:=eq.cal z ↥92 (Qt nb f)
 exact G1 nb ch an bv Y b0 aL ba b (vV (st:=uV) eh en ej)
end K36
end
open PySem PySem.W PyProof.Rows
set_option maxRecDepth 100000 in
set_option maxHeartbeats 0 in
theorem PySem.Challenge.cw_firnfall_k36_falls_that_can_have_brought_holds : PySem.Challenge.rw_firnfall_k36_falls_that_can_have_brought.Holds := by
 w_on
 refine holds_law HO.ws λb=>?_
 refine holds_open (q:=HO.view) (loose:=HO.loose) (N:=12000) (Xt:=HO.xt) (XP:=XL HO.view [])
  (Yf:=Hook.obs ↥80) (Ya:=Hook.val ↥80) (YP:=Hook.says ↥80)
  HO.left (Hook.of ↥80) (Hook.keeps ↥80)
  (λs e=>xl_of s (Bool.and_eq_true_iff.mp e).1) XL.keeps rfl rfl rfl
  (λs e=>recFacts_of (Bool.and_eq_true_iff.mp e).2) rfl
  (by first | assumption | decide +kernel) ↥31 ⟨rfl,rfl,rfl,rfl,rfl,by decide +kernel⟩ ?hw ?hc
 (case hw=>w_witness2)
 k_fill
 refine L2.Wa (l:=PySem.Challenge.rw_firnfall_k36_falls_that_can_have_brought) 11 144 142 ⟨rfl,⋯,⋯⟩ rfl rfl (λw h Y=>⟨PySem.W.km_in_of Y,PySem.W.km_tabs_of Y 142 (by simp)⟩) (λ_=>by kernel_rfl) (λ_=>by kernel_rfl) ?F
 case F =>
  intro w mg d h c G a
  refine' K36.WZ c G a ..
  all_goals try first | refine' L2.gN.mk ?_ ?_ ?_ ?_ | refine' L2.gM.mk ?_ ?_ ?_ ?_ ?_ | refine' L2.gE.mk ?_ ?_ ?_
  all_goals try show _=_
  all_goals try k_is
  all_goals kernel_rfl
